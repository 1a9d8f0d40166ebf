package berth

import (
	"maps"
	"slices"

	"berth/api"
)

// Schedule finds a node for a pod (P6).
func (b *Berth) Schedule(p api.Pod) api.Reply {
	if e := Check(p); e != api.OK {
		return api.Reply{Err: e}
	}
	if e := b.admits(p.Name); e != api.OK {
		return api.Reply{Err: e}
	}
	r := b.choose(p)
	r.Fresh = len(b.memory.fresh)
	clear(b.memory.fresh)
	if r.Err == api.OK {
		b.lay(p, r.Node, held, b.time)
	}
	return r
}

// choose asks the nodes by rising names, so that of equal scores the first stands.
func (b *Berth) choose(p api.Pod) api.Reply {
	b.look()
	known := b.known(p)
	best := api.Reply{Err: api.ErrFit}
	reasons := make([]api.Reason, 0, len(b.nodes))
	for _, name := range slices.Sorted(maps.Keys(b.nodes)) {
		a, there := known[name]
		if !there {
			a = b.judge(name, p)
			known[name] = a
		}
		if a.why != takes {
			reasons = append(reasons, api.Reason{Node: name, Why: a.why})
		} else if best.Err != api.OK || a.score > best.Score {
			best = api.Reply{Err: api.OK, Node: name, Score: a.score}
		}
	}
	if best.Err != api.OK {
		best.Reasons = reasons
	}
	return best
}
