package berth

import (
	"fmt"
	"math"
	"math/rand/v2"
	"slices"
	"strings"
	"testing"

	"berth/api"
)

// plain is the document's words on P4 to P8 over plain lists, with nothing remembered; Berths are held against it call by call.
type plain struct {
	hold, time int
	puts       int
	nodes      []plainNode
	pods       []plainPod
	waiting    []api.Pod
}

type plainNode struct {
	api.Node
	put   int // which of all the puts this one was
	fresh bool
}

type plainPod struct {
	api.Pod
	lies api.Lies
	put  int // the put of its node under which it was scheduled; 0, if it was bound
}

func (m *plain) node(name string) int {
	return slices.IndexFunc(m.nodes, func(n plainNode) bool { return n.Name == name })
}

func (m *plain) pod(name string) int {
	return slices.IndexFunc(m.pods, func(p plainPod) bool { return p.Name == name })
}

func (m *plain) PutNode(n api.Node) api.Errno {
	i := m.node(n.Name)
	switch {
	case CheckNode(n) != api.OK:
		return api.ErrNode
	case i < 0 && len(m.nodes) == 32:
		return api.ErrFull
	}
	if i >= 0 {
		m.nodes = slices.Delete(m.nodes, i, i+1)
	}
	m.puts++
	m.nodes = append(m.nodes, plainNode{n, m.puts, true})
	slices.SortFunc(m.nodes, func(a, b plainNode) int { return strings.Compare(a.Name, b.Name) })
	return api.OK
}

func (m *plain) DropNode(name string) api.Errno {
	i := m.node(name)
	if i < 0 {
		return api.ErrNone
	}
	m.nodes = slices.Delete(m.nodes, i, i+1)
	m.pods = slices.DeleteFunc(m.pods, func(p plainPod) bool { return p.lies.Node == name })
	return api.OK
}

func (m *plain) Bind(p api.Pod, node string) api.Errno {
	switch {
	case Check(p) != api.OK:
		return api.ErrPod
	case m.node(node) < 0:
		return api.ErrNone
	case m.pod(p.Name) >= 0:
		return api.ErrTwice
	case len(m.pods) == 128:
		return api.ErrFull
	}
	m.nodes[m.node(node)].fresh = true
	m.pods = append(m.pods, plainPod{p, api.Lies{Name: p.Name, Node: node, Bound: true}, 0})
	return api.OK
}

func (m *plain) Schedule(p api.Pod) api.Reply {
	switch {
	case Check(p) != api.OK:
		return api.Reply{Err: api.ErrPod}
	case m.pod(p.Name) >= 0:
		return api.Reply{Err: api.ErrTwice}
	case len(m.pods) == 128:
		return api.Reply{Err: api.ErrFull}
	}
	r := api.Reply{Err: api.ErrFit, Score: -1}
	fresh, at := 0, -1
	for i := range m.nodes {
		if m.nodes[i].fresh {
			fresh++
		}
		m.nodes[i].fresh = false
		if why := m.why(m.nodes[i].Node, p); why != 0 {
			r.Reasons = append(r.Reasons, api.Reason{Node: m.nodes[i].Name, Why: why})
		} else if s := m.score(m.nodes[i].Node, p); s > r.Score {
			at, r.Score = i, s
		}
	}
	if at < 0 {
		return api.Reply{Err: api.ErrFit, Reasons: r.Reasons, Fresh: fresh}
	}
	n := &m.nodes[at]
	n.fresh = true
	m.pods = append(m.pods, plainPod{p, api.Lies{Name: p.Name, Node: n.Name, Since: m.time}, n.put})
	return api.Reply{Node: n.Name, Score: r.Score, Fresh: fresh}
}

func (m *plain) on(node string) []*plainPod {
	var out []*plainPod
	for i := range m.pods {
		if m.pods[i].lies.Node == node {
			out = append(out, &m.pods[i])
		}
	}
	return out
}

func (m *plain) used(node string, amount int) int {
	used := 0
	for _, p := range m.on(node) {
		used += p.Need[amount]
	}
	return used
}

func (m *plain) score(n api.Node, p api.Pod) int {
	score := 0
	for i := range 3 {
		if left := n.Room[i] - m.used(n.Name, i) - p.Need[i]; n.Room[i] > 0 && left >= 0 {
			score += left * 100 / n.Room[i]
		}
	}
	return score
}

func (m *plain) why(n api.Node, p api.Pod) int {
	near, apart := len(p.Near) > 0, false
	for i := range 3 {
		if p.Need[i] > 0 && p.Need[i] > n.Room[i]-m.used(n.Name, i) {
			return 1
		}
	}
	for _, q := range m.pods {
		if q.lies.Node == n.Name && q.Port == p.Port && p.Port > 0 {
			return 2
		}
		other := m.nodes[m.node(q.lies.Node)].Node
		if !plainNeighbours(n, other) {
			continue
		}
		near = near && !plainFits(p.Near, q.Labels)
		apart = apart || len(p.Apart) > 0 && plainFits(p.Apart, q.Labels) || len(q.Apart) > 0 && plainFits(q.Apart, p.Labels)
	}
	switch {
	case !plainFits(p.Select, n.Labels):
		return 3
	case !plainFits(n.Taints, p.Bears):
		return 4
	case near:
		return 5
	case apart:
		return 6
	}
	return 0
}

func plainFits(l, among []api.Label) bool {
	found := 0
	for _, a := range l {
		for _, b := range among {
			if a.Key == b.Key && a.Value == b.Value {
				found++
			}
		}
	}
	return found == len(l)
}

func plainNeighbours(n, m api.Node) bool {
	for _, a := range n.Labels {
		for _, b := range m.Labels {
			if a.Key == "zone" && b.Key == "zone" && a.Value == b.Value {
				return true
			}
		}
	}
	return n.Name == m.Name
}

func (m *plain) Confirm(name string) api.Errno {
	i := m.pod(name)
	switch {
	case i < 0:
		return api.ErrNone
	case m.pods[i].lies.Bound:
		return api.ErrState
	}
	m.pods[i].lies.Bound = true
	return api.OK
}

func (m *plain) Drop(name string) api.Errno {
	i := m.pod(name)
	if i < 0 {
		return api.ErrNone
	}
	m.nodes[m.node(m.pods[i].lies.Node)].fresh = true
	m.pods = slices.Delete(m.pods, i, i+1)
	return api.OK
}

// tick takes the ticks one by one, and drops what is held when its time has come (P9).
func (m *plain) Tick(n int) api.Errno {
	if n < 0 || n > 100000 {
		return api.ErrTime
	}
	for range min(n, 2000) {
		m.time++
		for _, p := range slices.Clone(m.pods) {
			if !p.lies.Bound && p.lies.Since+m.hold == m.time {
				m.Drop(p.Name)
			}
		}
	}
	m.time += max(0, n-2000)
	return api.OK
}

func (m *plain) Queue(p api.Pod) api.Errno {
	switch {
	case Check(p) != api.OK:
		return api.ErrPod
	case len(m.waiting) == 128:
		return api.ErrFull
	}
	m.waiting = append(m.waiting, p)
	return api.OK
}

func (m *plain) Drain(n int) []api.Reply {
	var out []api.Reply
	for n > 0 && len(m.waiting) > 0 {
		out = append(out, m.Schedule(m.waiting[0]))
		m.waiting = m.waiting[1:]
		n--
	}
	return out
}

func (m *plain) State() api.State {
	s := api.State{Time: m.time, Waiting: len(m.waiting)}
	for _, n := range m.nodes {
		used := api.Amounts{m.used(n.Name, 0), m.used(n.Name, 1), m.used(n.Name, 2)}
		s.Nodes = append(s.Nodes, api.Use{Name: n.Name, Used: used, Pods: len(m.on(n.Name))})
	}
	for _, p := range m.pods {
		s.Pods = append(s.Pods, p.lies)
	}
	slices.SortFunc(s.Pods, func(a, b api.Lies) int { return strings.Compare(a.Name, b.Name) })
	return s
}

// overfull names a node that P9 says there can't be: all of its pods scheduled since it was put, and more used than room of what they need, or a port twice.
func (m *plain) overfull(s api.State) string {
	for i, n := range m.nodes {
		pods, ports := m.on(n.Name), map[int]int{}
		if slices.ContainsFunc(pods, func(p *plainPod) bool { return p.put != n.put }) {
			continue
		}
		for _, p := range pods {
			for j := range 3 {
				if p.Need[j] > 0 && s.Nodes[i].Used[j] > n.Room[j] {
					return n.Name
				}
			}
			ports[p.Port]++
			if p.Port > 0 && ports[p.Port] > 1 {
				return n.Name
			}
		}
	}
	return ""
}

// mix draws calls from a few names, labels and amounts, so that they have to do with each other.
type mix struct {
	*rand.Rand
	nodes, pods, most int
	queues            int // of 100 calls so many are of Queue
}

func (x mix) list(none int, choices ...string) []api.Label {
	var out []api.Label
	for i := 0; i < len(choices); i += 3 {
		if k := x.IntN(2 + none); k < 2 {
			out = append(out, api.Label{Key: choices[i], Value: choices[i+1+k]})
		}
	}
	return out
}

func (x mix) amounts() api.Amounts {
	few := func() int { return x.IntN(2) * x.IntN(4*x.most) }
	return api.Amounts{few(), few(), few()}
}

func (x mix) node() api.Node {
	n := api.Node{Name: fmt.Sprint("n", x.IntN(x.nodes))}
	for i := range n.Room {
		n.Room[i] = max(0, x.IntN(24*x.most)-4*x.most)
	}
	n.Labels = append(x.list(1, "disk", "fast", "slow"), x.list(1, "zone", "x", "y")...)
	n.Taints = x.list(9, "load", "heavy", "light", "zone", "x", "y")
	if x.IntN(30) == 0 {
		n.Labels = append(n.Labels, api.Label{Key: "disk"})
	}
	return n
}

func (x mix) pod() api.Pod {
	p := api.Pod{Name: fmt.Sprint("p", x.IntN(x.pods)), Port: max(0, x.IntN(12)-8)}
	if x.IntN(2) == 0 {
		p.Need = x.amounts()
	}
	p.Labels = x.list(1, "app", "web", "db", "rank", "one", "two")
	p.Select = x.list(6, "disk", "fast", "slow", "zone", "x", "y")
	p.Bears = x.list(0, "load", "heavy", "light", "zone", "x", "y")
	p.Near = x.list(8, "app", "web", "db", "rank", "one", "two")
	p.Apart = x.list(12, "app", "web", "db", "rank", "one", "two")
	if x.IntN(50) == 0 {
		p.Port = 65536
	}
	return p
}

// calls are those that a Berth and the plain words both have.
type calls interface {
	PutNode(n api.Node) api.Errno
	DropNode(name string) api.Errno
	Bind(p api.Pod, node string) api.Errno
	Schedule(p api.Pod) api.Reply
	Confirm(name string) api.Errno
	Drop(name string) api.Errno
	Tick(n int) api.Errno
	Queue(p api.Pod) api.Errno
	Drain(n int) []api.Reply
	State() api.State
}

// call draws one call: what it is, and the making of it, with what came of it as a text.
func (x mix) call(kinds []api.Pod) (what string, of func(calls) string) {
	n, p, k, ticks, first := x.node(), x.pod(), x.IntN(100), x.IntN(4), x.IntN(8)-1
	if x.IntN(3) > 0 {
		kind := kinds[x.IntN(len(kinds))]
		kind.Name = p.Name
		p = kind
	}
	if x.IntN(40) == 0 {
		ticks = []int{-1, 0, 100000, 100001}[ticks]
		first = math.MaxInt
	}
	switch {
	case k < 12:
		return fmt.Sprintf("PutNode %+v", n), func(b calls) string { return fmt.Sprint(b.PutNode(n)) }
	case k < 13:
		return "DropNode " + n.Name, func(b calls) string { return fmt.Sprint(b.DropNode(n.Name)) }
	case k < 23:
		return fmt.Sprintf("Bind %+v to %s", p, n.Name), func(b calls) string { return fmt.Sprint(b.Bind(p, n.Name)) }
	case k < 33:
		return "Drop " + p.Name, func(b calls) string { return fmt.Sprint(b.Drop(p.Name)) }
	case k < 43:
		return "Confirm " + p.Name, func(b calls) string { return fmt.Sprint(b.Confirm(p.Name)) }
	case k < 48:
		return fmt.Sprint("Tick ", ticks), func(b calls) string { return fmt.Sprint(b.Tick(ticks)) }
	case k < 52:
		return fmt.Sprint("Drain ", first), func(b calls) string { return fmt.Sprintf("%+v", b.Drain(first)) }
	case k < 52+x.queues:
		return fmt.Sprintf("Queue %+v", p), func(b calls) string { return fmt.Sprint(b.Queue(p)) }
	}
	return fmt.Sprintf("Schedule %+v", p), func(b calls) string { return fmt.Sprintf("%+v", b.Schedule(p)) }
}

// TestP9CallsAgainstThePlainWords runs calls of all kinds (P4 to P8) with all four settings, in an order that is mixed but the same each time.
func TestP9CallsAgainstThePlainWords(t *testing.T) {
	for seed := range uint64(18) {
		x := mix{rand.New(rand.NewPCG(seed, 1)), 6, 60, 5, 12}
		if seed%6 > 3 {
			x.queues = 30
		}
		if seed%3 == 2 {
			x.nodes, x.pods, x.most = 36, 400, api.MaxAmount/20
		}
		length := 1 + x.IntN(12) + int(seed%3)*40
		var all []*Berth
		for _, c := range settings(length) {
			all = append(all, madeBy(t, c))
		}
		var kinds []api.Pod
		for range 10 {
			kinds = append(kinds, x.pod())
		}
		m := &plain{hold: length}
		for i := range 800 {
			what, of := x.call(kinds)
			want, state := of(m), m.State()
			for j, b := range all {
				if got := of(b); got != want || !sameState(b.State(), state) {
					t.Fatalf("seed %d, call %d, setting %d: %s:\n%s\nwant:\n%s\nstate:\n%+v\nwant:\n%+v", seed, i, j, what, got, want, b.State(), state)
				}
			}
			if name := m.overfull(all[0].State()); name != "" {
				t.Fatalf("seed %d, call %d: %s: the node %s is overfull: %+v", seed, i, what, name, state)
			}
		}
	}
}
