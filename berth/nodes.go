package berth

import "berth/api"

// node is what is kept of a node; what lies on it is kept with the pods, so that a node put anew leaves it as it is.
type node struct {
	room           api.Amounts
	labels, taints []api.Label
}

// PutNode lets a node be there (P4).
func (b *Berth) PutNode(n api.Node) api.Errno {
	if e := CheckNode(n); e != api.OK {
		return e
	}
	if !b.hasNode(n.Name) && len(b.nodes) >= api.MaxNodes {
		return api.ErrFull
	}
	b.forget(n.Name) // while its neighbours are still those of its old zone
	b.nodes[n.Name] = node{room: n.Room, labels: copied(n.Labels), taints: copied(n.Taints)}
	b.changed(n.Name)
	return api.OK
}

// DropNode takes a node away (P4).
func (b *Berth) DropNode(name string) api.Errno {
	if !b.hasNode(name) {
		return api.ErrNone
	}
	for podName, p := range b.pods {
		if p.node == name {
			delete(b.pods, podName)
		}
	}
	b.forget(name) // while it can still be told who its neighbours are
	delete(b.memory.fresh, name)
	delete(b.nodes, name)
	return api.OK
}

func (b *Berth) hasNode(name string) bool {
	_, there := b.nodes[name]
	return there
}

// areNeighbours takes a node for its own neighbour, with a zone or without.
func (b *Berth) areNeighbours(name, other string) bool {
	zone := b.nodes[name].zone()
	return name == other || zone != "" && zone == b.nodes[other].zone()
}

// zone is empty for a node without one: no name is empty.
func (n node) zone() string {
	for _, label := range n.labels {
		if label.Key == "zone" {
			return label.Value
		}
	}
	return ""
}

// copied makes a list of the program's own: the caller may write into theirs at any time.
func copied(l []api.Label) []api.Label {
	out := make([]api.Label, len(l))
	copy(out, l)
	return out
}
