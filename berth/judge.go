package berth

import (
	"slices"

	"berth/api"
)

// judge works a node's answer to a pod out of the views, which must have been taken.
func (b *Berth) judge(name string, p api.Pod) answer {
	if why := b.reason(name, p); why != takes {
		return answer{why: why}
	}
	return answer{score: score(b.nodes[name].room, b.memory.views[name].used, p.Need)}
}

func (b *Berth) reason(name string, p api.Pod) int {
	n, v := b.nodes[name], b.memory.views[name]
	switch {
	case isShort(n.room, v.used, p.Need):
		return api.Amount
	case hasPort(v.pods, p.Port):
		return api.Port
	case !Fits(p.Select, n.labels):
		return api.Select
	case !Fits(n.taints, p.Bears):
		return api.Taint
	case len(p.Near) > 0 && !b.hasNear(name, p):
		return api.Near
	case b.hasApart(name, p):
		return api.Apart
	}
	return takes
}

// isShort leaves out amounts of which nothing is needed: a node may be overfull of those, by Bind or by being put anew.
func isShort(room, used, need api.Amounts) bool {
	for i := range need {
		if need[i] > 0 && need[i] > room[i]-used[i] {
			return true
		}
	}
	return false
}

func hasPort(pods []*pod, port int) bool {
	return port != 0 && slices.ContainsFunc(pods, func(q *pod) bool { return q.port == port })
}

func (b *Berth) hasNear(name string, p api.Pod) bool {
	return b.anyNear(name, func(q *pod) bool { return Fits(p.Near, q.labels) })
}

func (b *Berth) hasApart(name string, p api.Pod) bool {
	return b.anyNear(name, func(q *pod) bool {
		return shuns(p.Apart, q.labels) || shuns(q.apart, p.Labels)
	})
}

// shuns tells of an Apart: an empty one would fit all, but shuns nobody.
func shuns(apart, labels []api.Label) bool {
	return len(apart) > 0 && Fits(apart, labels)
}

// anyNear tells whether a pod on a neighbour of the node is as asked.
func (b *Berth) anyNear(name string, is func(*pod) bool) bool {
	for other := range b.nodes {
		if b.areNeighbours(name, other) && slices.ContainsFunc(b.memory.views[other].pods, is) {
			return true
		}
	}
	return false
}

func score(room, used, need api.Amounts) int {
	total := 0
	for i := range room {
		total += share(room[i]-used[i]-need[i], room[i])
	}
	return total
}

func share(left, room int) int {
	if room == 0 {
		return 0
	}
	return max(left, 0) * 100 / room
}
