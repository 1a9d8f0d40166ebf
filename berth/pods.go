package berth

import "berth/api"

// podState is how a pod lies on its node.
type podState int

const (
	held podState = iota
	bound
)

// pod is what is kept of a pod that is there: what others are held against once it lies on its node.
// Its Select, Bears and Near count only while a node is looked for, so they are not kept.
type pod struct {
	need          api.Amounts
	port          int
	labels, apart []api.Label
	node          string
	state         podState
	since         int
}

// Bind lays a pod on a node (P5).
func (b *Berth) Bind(p api.Pod, node string) api.Errno {
	if e := Check(p); e != api.OK {
		return e
	}
	if !b.hasNode(node) {
		return api.ErrNone
	}
	if e := b.admits(p.Name); e != api.OK {
		return e
	}
	b.lay(p, node, bound, 0)
	return api.OK
}

// Confirm lets a pod stay (P5).
func (b *Berth) Confirm(name string) api.Errno {
	p, there := b.pods[name]
	if !there {
		return api.ErrNone
	}
	if p.state == bound {
		return api.ErrState
	}
	p.state = bound
	return api.OK
}

// Drop takes a pod away (P5).
func (b *Berth) Drop(name string) api.Errno {
	if _, there := b.pods[name]; !there {
		return api.ErrNone
	}
	b.lift(name)
	return api.OK
}

// Tick lets time go by (P5).
func (b *Berth) Tick(n int) api.Errno {
	if n < 0 || n > api.MaxTick || n > api.MaxTime-b.time {
		return api.ErrTime
	}
	b.time += n
	for name, p := range b.pods {
		if p.state == held && b.time-p.since >= b.hold {
			b.lift(name)
		}
	}
	return api.OK
}

// admits tells whether one more pod, of this name, may be there.
func (b *Berth) admits(name string) api.Errno {
	if _, there := b.pods[name]; there {
		return api.ErrTwice
	}
	if len(b.pods) >= api.MaxPods {
		return api.ErrFull
	}
	return api.OK
}

func (b *Berth) lay(p api.Pod, node string, state podState, since int) {
	b.pods[p.Name] = &pod{
		need:   p.Need,
		port:   p.Port,
		labels: copied(p.Labels),
		apart:  copied(p.Apart),
		node:   node,
		state:  state,
		since:  since,
	}
	b.changed(node)
}

// lift takes away a pod that is there.
func (b *Berth) lift(name string) {
	node := b.pods[name].node
	delete(b.pods, name)
	b.changed(node)
}
