package berth

import (
	"fmt"
	"math/rand/v2"
	"slices"
	"strings"
	"testing"

	"berth/api"
)

// plain is the document's words on P4, P5 and P8 over two plain lists, held against the Berth call by call.
type plain struct {
	hold, time int
	nodes      []string
	pods       []plainPod
}

type plainPod struct {
	lies api.Lies
	need api.Amounts
}

func (m *plain) pod(name string) int {
	return slices.IndexFunc(m.pods, func(p plainPod) bool { return p.lies.Name == name })
}

func (m *plain) putNode(n api.Node) api.Errno {
	switch {
	case CheckNode(n) != api.OK:
		return api.ErrNode
	case slices.Contains(m.nodes, n.Name):
		return api.OK
	case len(m.nodes) == 32:
		return api.ErrFull
	}
	m.nodes = append(m.nodes, n.Name)
	return api.OK
}

func (m *plain) dropNode(name string) api.Errno {
	i := slices.Index(m.nodes, name)
	if i < 0 {
		return api.ErrNone
	}
	m.nodes = slices.Delete(m.nodes, i, i+1)
	m.pods = slices.DeleteFunc(m.pods, func(p plainPod) bool { return p.lies.Node == name })
	return api.OK
}

func (m *plain) bind(p api.Pod, node string) api.Errno {
	switch {
	case Check(p) != api.OK:
		return api.ErrPod
	case !slices.Contains(m.nodes, node):
		return api.ErrNone
	case m.pod(p.Name) >= 0:
		return api.ErrTwice
	case len(m.pods) == 128:
		return api.ErrFull
	}
	m.pods = append(m.pods, plainPod{api.Lies{Name: p.Name, Node: node, Bound: true}, p.Need})
	return api.OK
}

func (m *plain) confirm(name string) api.Errno {
	i := m.pod(name)
	switch {
	case i < 0:
		return api.ErrNone
	case m.pods[i].lies.Bound:
		return api.ErrState
	}
	m.pods[i].lies.Bound = true
	return api.OK
}

func (m *plain) drop(name string) api.Errno {
	i := m.pod(name)
	if i < 0 {
		return api.ErrNone
	}
	m.pods = slices.Delete(m.pods, i, i+1)
	return api.OK
}

func (m *plain) tick(n int) api.Errno {
	if n < 0 || n > 100000 {
		return api.ErrTime
	}
	m.time += n
	m.pods = slices.DeleteFunc(m.pods, func(p plainPod) bool { return !p.lies.Bound && p.lies.Since+m.hold <= m.time })
	return api.OK
}

func (m *plain) state() api.State {
	s := api.State{Time: m.time}
	for _, name := range m.nodes {
		u := api.Use{Name: name}
		for _, p := range m.pods {
			if p.lies.Node == name {
				u.Pods++
				u.Used = api.Amounts{u.Used[0] + p.need[0], u.Used[1] + p.need[1], u.Used[2] + p.need[2]}
			}
		}
		s.Nodes = append(s.Nodes, u)
	}
	for _, p := range m.pods {
		s.Pods = append(s.Pods, p.lies)
	}
	slices.SortFunc(s.Nodes, func(a, b api.Use) int { return strings.Compare(a.Name, b.Name) })
	slices.SortFunc(s.Pods, func(a, b api.Lies) int { return strings.Compare(a.Name, b.Name) })
	return s
}

// TestCallsAgainstThePlainWords runs calls of all kinds (P4, P5, P8) in an order that is mixed but the same each time.
func TestCallsAgainstThePlainWords(t *testing.T) {
	for seed := range uint64(12) {
		r := rand.New(rand.NewPCG(seed, 1))
		length := 1 + r.IntN(12)
		b, m := made(t, length), &plain{hold: length}
		for i := range 1500 {
			what, got, wanted := oneCall(r, b, m)
			want(t, fmt.Sprint("seed ", seed, ", call ", i, ": ", what), got, wanted)
			wantState(t, b, m.state())
			if t.Failed() {
				return
			}
		}
	}
}

func oneCall(r *rand.Rand, b *Berth, m *plain) (what string, got, wanted api.Errno) {
	node, name := fmt.Sprint("n", r.IntN(36)), fmt.Sprint("p", r.IntN(150))
	p := api.Pod{Name: name, Need: api.Amounts{r.IntN(9), r.IntN(9), r.IntN(3) * api.MaxAmount / 2}, Port: r.IntN(65560)}
	switch k := r.IntN(60); {
	case k < 6:
		n := api.Node{Name: node, Labels: keys(r.IntN(10))}
		return "PutNode " + node, b.PutNode(n), m.putNode(n)
	case k < 7:
		return "DropNode " + node, b.DropNode(node), m.dropNode(node)
	case k < 10:
		return "Drop " + name, b.Drop(name), m.drop(name)
	case k < 20:
		return "Confirm " + name, b.Confirm(name), m.confirm(name)
	case k < 22:
		n := []int{-1, 0, 0, 1, 1, 1, 1, 2, 100000, 100001}[r.IntN(10)]
		return fmt.Sprint("Tick ", n), b.Tick(n), m.tick(n)
	case k < 42:
		if m.pod(name) < 0 && slices.Contains(m.nodes, node) && len(m.pods) < 128 && Check(p) == api.OK {
			hold(b, p, node)
			m.pods = append(m.pods, plainPod{api.Lies{Name: name, Node: node, Since: m.time}, p.Need})
		}
		return "hold " + name, api.OK, api.OK
	}
	return "Bind " + name + " to " + node, b.Bind(p, node), m.bind(p, node)
}
