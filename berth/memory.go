package berth

import (
	"maps"
	"slices"

	"berth/api"
)

// memory is what Schedule remembers from call to call. All of it could be worked out from the nodes and pods that are there, but for fresh.
type memory struct {
	fresh   map[string]struct{}        // the nodes that changed since the last Schedule
	views   map[string]view            // by node
	answers map[kind]map[string]answer // by kind of pod, then by node
}

// mostKinds bounds what is remembered, for there is no end of kinds that may be asked for.
const mostKinds = api.MaxPods

// view is what lies on a node.
type view struct {
	used api.Amounts
	pods []*pod
}

// answer is what a node is for a pod: the first reason against it, or its score.
type answer struct {
	why, score int
}

// takes stands where a reason would: there is none.
const takes = 0

// kind is all of a pod that a node's answer hangs on, as a value that a map can have for a key.
type kind struct {
	need  api.Amounts
	port  int
	lists [5][api.MaxLabels]api.Label
}

func kindOf(p api.Pod) kind {
	k := kind{need: p.Need, port: p.Port}
	for i, l := range [...][]api.Label{p.Labels, p.Select, p.Bears, p.Near, p.Apart} {
		copy(k.lists[i][:], l)
	}
	return k
}

func newMemory() memory {
	return memory{fresh: map[string]struct{}{}, views: map[string]view{}, answers: map[kind]map[string]answer{}}
}

// known is where the answers to pods of p's kind lie; without c.Remember it is a place that nobody finds again.
func (b *Berth) known(p api.Pod) map[string]answer {
	if !b.remember {
		return map[string]answer{}
	}
	k := kindOf(p)
	if known, there := b.memory.answers[k]; there {
		return known
	}
	if len(b.memory.answers) >= mostKinds {
		clear(b.memory.answers)
	}
	known := map[string]answer{}
	b.memory.answers[k] = known
	return known
}

// look takes a view of each node of which none is remembered; with c.Whole, of all.
func (b *Berth) look() {
	if b.whole {
		clear(b.memory.views)
	}
	anew := map[string]view{}
	for name := range b.nodes {
		if _, there := b.memory.views[name]; !there {
			anew[name] = view{}
		}
	}
	for _, name := range slices.Sorted(maps.Keys(b.pods)) {
		p := b.pods[name]
		if v, there := anew[p.node]; there {
			anew[p.node] = view{used: sum(v.used, p.need), pods: append(v.pods, p)}
		}
	}
	maps.Copy(b.memory.views, anew)
}

// changed is told of each node that was put, or got or lost a pod.
func (b *Berth) changed(name string) {
	b.memory.fresh[name] = struct{}{}
	b.forget(name)
}

// forget takes out what may no longer hold when a node changes. Its neighbours' answers go too: their Near and Apart look at what lies on it.
func (b *Berth) forget(name string) {
	delete(b.memory.views, name)
	for other := range b.nodes {
		if !b.areNeighbours(name, other) {
			continue
		}
		for _, known := range b.memory.answers {
			delete(known, other)
		}
	}
}
