package berth

import (
	"maps"
	"slices"

	"berth/api"
)

// State tells what is there (P8).
func (b *Berth) State() api.State {
	return api.State{Time: b.time, Nodes: b.uses(), Pods: b.lies(), Waiting: len(b.waiting)}
}

func (b *Berth) uses() []api.Use {
	on := b.usesByNode()
	out := make([]api.Use, 0, len(b.nodes))
	for _, name := range slices.Sorted(maps.Keys(b.nodes)) {
		u := on[name]
		u.Name = name
		out = append(out, u)
	}
	return out
}

// usesByNode sums up anew each time: a sum that is kept could drift from the pods that are there.
func (b *Berth) usesByNode() map[string]api.Use {
	on := map[string]api.Use{}
	for _, p := range b.pods {
		u := on[p.node]
		u.Used = sum(u.Used, p.need)
		u.Pods++
		on[p.node] = u
	}
	return on
}

func (b *Berth) lies() []api.Lies {
	out := make([]api.Lies, 0, len(b.pods))
	for _, name := range slices.Sorted(maps.Keys(b.pods)) {
		p := b.pods[name]
		out = append(out, api.Lies{Name: name, Node: p.node, Bound: p.state == bound, Since: p.since})
	}
	return out
}

func sum(a, b api.Amounts) api.Amounts {
	for i := range a {
		a[i] += b[i]
	}
	return a
}
