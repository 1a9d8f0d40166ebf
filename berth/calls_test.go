package berth

import (
	"fmt"
	"math"
	"reflect"
	"slices"
	"strings"
	"testing"

	"berth/api"
)

// filled is a Berth with all the nodes and pods that may be there, some of the pods held, and all that may wait; it remembers what it was asked for, and has changed since.
func filled(t *testing.T) *Berth {
	b := madeBy(t, api.Config{Hold: 5, Remember: true})
	for i := range api.MaxNodes {
		b.PutNode(api.Node{Name: fmt.Sprint("n", i), Room: api.Amounts{i, i, i}, Labels: labels("zone", fmt.Sprint("z", i%3)), Taints: labels("t", "v")})
	}
	b.Tick(10)
	b.Schedule(api.Pod{Name: "more", Select: labels("zone", "z3"), Near: labels("app", "web")})
	for i := range api.MaxPods {
		if i == api.MaxPods-20 {
			b.Schedule(api.Pod{Name: "more", Bears: labels("t", "v"), Near: labels("app", "web"), Labels: labels("app", "db")})
		}
		p := api.Pod{Name: fmt.Sprint("p", i), Need: api.Amounts{i, 0, 1}, Port: i, Labels: labels("app", "web"), Apart: labels("app", "db")}
		if i%4 == 0 {
			hold(b, p, fmt.Sprint("n", i%7))
		} else {
			b.Bind(p, fmt.Sprint("n", i%5))
		}
		p.Name, p.Near = fmt.Sprint("w", i%100), labels("rank", fmt.Sprint(i))
		b.Queue(p)
	}
	return b
}

// refused is a Schedule whose reply tells nothing but an error.
func refused(b *Berth, p api.Pod) func() api.Errno {
	return func() api.Errno {
		r := b.Schedule(p)
		if !sameReply(r, api.Reply{Err: r.Err}) {
			return -1
		}
		return r.Err
	}
}

func TestP1AnErrorChangesNothing(t *testing.T) {
	b := filled(t)
	for what, c := range map[string]struct {
		call func() api.Errno
		want api.Errno
	}{
		"PutNode of no node":         {func() api.Errno { return b.PutNode(api.Node{Name: "n1", Labels: keys(9)}) }, api.ErrNode},
		"PutNode of a wrong name":    {func() api.Errno { return b.PutNode(api.Node{Name: "N1"}) }, api.ErrNode},
		"PutNode of one more":        {func() api.Errno { return b.PutNode(api.Node{Name: "more"}) }, api.ErrFull},
		"DropNode of none":           {func() api.Errno { return b.DropNode("more") }, api.ErrNone},
		"DropNode of a pod":          {func() api.Errno { return b.DropNode("p1") }, api.ErrNone},
		"Bind of no pod":             {func() api.Errno { return b.Bind(api.Pod{Name: "p1", Port: 65536}, "n1") }, api.ErrPod},
		"Bind to no node":            {func() api.Errno { return b.Bind(api.Pod{Name: "more"}, "more") }, api.ErrNone},
		"Bind of one that is bound":  {func() api.Errno { return b.Bind(api.Pod{Name: "p1"}, "n9") }, api.ErrTwice},
		"Bind of one that is held":   {func() api.Errno { return b.Bind(api.Pod{Name: "p4"}, "n9") }, api.ErrTwice},
		"Bind of one more":           {func() api.Errno { return b.Bind(api.Pod{Name: "more"}, "n1") }, api.ErrFull},
		"Schedule of no pod":         {refused(b, api.Pod{Name: "p1", Near: keys(9)}), api.ErrPod},
		"Schedule of one bound":      {refused(b, api.Pod{Name: "p1"}), api.ErrTwice},
		"Schedule of one held":       {refused(b, api.Pod{Name: "p4"}), api.ErrTwice},
		"Schedule of one more":       {refused(b, api.Pod{Name: "more"}), api.ErrFull},
		"Confirm of none":            {func() api.Errno { return b.Confirm("more") }, api.ErrNone},
		"Confirm of one bound":       {func() api.Errno { return b.Confirm("p1") }, api.ErrState},
		"Drop of none":               {func() api.Errno { return b.Drop("n1") }, api.ErrNone},
		"Queue of no pod":            {func() api.Errno { return b.Queue(api.Pod{Name: "p1", Bears: keys(9)}) }, api.ErrPod},
		"Queue of one more":          {func() api.Errno { return b.Queue(api.Pod{Name: "more"}) }, api.ErrFull},
		"Queue of one that is there": {func() api.Errno { return b.Queue(api.Pod{Name: "p1"}) }, api.ErrFull},
		"Tick back":                  {func() api.Errno { return b.Tick(-6) }, api.ErrTime},
		"Tick too far":               {func() api.Errno { return b.Tick(api.MaxTick + 1) }, api.ErrTime},
	} {
		want(t, what, c.call(), c.want)
		wantSame(t, what, b, filled(t))
	}
}

func TestP1NoCallPanics(t *testing.T) {
	numbers := []int{0, 1, -1, 5, 1000, 65535, 1 << 40, 1<<40 + 1, math.MaxInt, math.MinInt, math.MaxInt32}
	texts := []string{"", "a", "A", "\xff\x00", strings.Repeat("a", 20), strings.Repeat("a", 1<<20), "zone", "é"}
	manyLabels := [][]api.Label{nil, {}, {{}}, make([]api.Label, 5000), labels("a", "b"), labels("a", "b", "a", "b"), labels("zone", "x")}
	b := madeBy(t, api.Config{Hold: 1, Remember: true})
	for _, n := range numbers {
		New(api.Config{Hold: n})
		for _, s := range texts {
			for _, l := range manyLabels {
				p := api.Pod{Name: s, Need: api.Amounts{n, n, n}, Port: n, Labels: l, Select: l, Bears: l, Near: l, Apart: l}
				m := api.Node{Name: s, Room: api.Amounts{n, n, n}, Labels: l, Taints: l}
				Check(p)
				CheckNode(m)
				Fits(l, manyLabels[n&3])
				b.PutNode(m)
				b.Bind(p, s)
				b.Bind(p, "a")
				b.Schedule(p)
				b.Confirm(s)
				b.Drop(s)
				b.Schedule(p)
				b.Queue(p)
				b.Queue(api.Pod{Name: "a", Need: api.Amounts{1, 0, 0}})
				b.Drain(n)
				b.Tick(n)
				b.State()
				b.Drop(s)
				b.DropNode(s)
			}
		}
	}
}

func TestP1TheSameCallsTheSameAnswers(t *testing.T) {
	first := filled(t)
	state := first.State()
	first.Tick(5)
	replies := first.Drain(9)
	for range 20 {
		b := filled(t)
		if s := b.State(); !reflect.DeepEqual(s, state) {
			t.Fatalf("%+v, and then %+v", state, s)
		}
		b.Tick(5)
		if r := b.Drain(9); !reflect.DeepEqual(r, replies) {
			t.Fatalf("%+v, and then %+v", replies, r)
		}
	}
}

// roomy is a list with spare room, and the memory that lies behind both.
func roomy(l []api.Label) (list, all []api.Label) {
	all = append(slices.Clone(l), labels("spare", "room", "more", "room")...)
	return all[:len(l)], all
}

func TestP1ListsThatAreHandedInStayAsTheyAre(t *testing.T) {
	b := made(t, 5)
	for _, l := range [][]api.Label{{}, labels("z", "1", "b", "2", "a", "3"), labels("z", "1", "a", "2", "z", "3"), keys(8), keys(9)} {
		list, all := roomy(l)
		before := slices.Clone(all)
		p := api.Pod{Name: "p", Labels: list, Select: list, Bears: list, Near: list, Apart: list}
		n := api.Node{Name: "n", Labels: list, Taints: list}
		Check(p)
		CheckNode(n)
		Fits(list, list)
		b.PutNode(n)
		b.Bind(p, "n")
		b.Drop("p")
		b.Schedule(p)
		b.Drop("p")
		b.Schedule(api.Pod{Name: "q", Labels: list, Select: list, Bears: list})
		b.Drop("q")
		b.Queue(p)
		b.Queue(api.Pod{Name: "q", Labels: list, Select: list, Bears: list})
		b.Drain(2)
		b.Drop("q")
		if !slices.Equal(all, before) {
			t.Errorf("%v became %v", before, all)
		}
	}
}

func TestP1ListsThatAreHandedInAreNotKept(t *testing.T) {
	remember := api.Config{Hold: 5, Remember: true}
	b, other := madeBy(t, remember), madeBy(t, remember)
	for i, at := range []*Berth{b, other} {
		var mine [][]api.Label
		list := func() []api.Label {
			l, all := roomy(labels("a", "1", "zone", "2"))
			mine = append(mine, all)
			return l
		}
		want(t, "PutNode", at.PutNode(api.Node{Name: "n", Labels: list(), Taints: list()}), api.OK)
		want(t, "Bind", at.Bind(api.Pod{Name: "p", Labels: list(), Select: list(), Bears: list(), Near: list(), Apart: list()}, "n"), api.OK)
		wantReply(t, at, api.Pod{Name: "q", Labels: list(), Select: list(), Bears: list(), Near: list(), Apart: labels("a", "2")}, unfit(1, "n6"))
		at.Drop("p")
		wantReply(t, at, api.Pod{Name: "q", Labels: list(), Select: list(), Bears: list(), Apart: list()}, api.Reply{Node: "n", Fresh: 1})
		queue(t, at, api.Pod{Name: "w", Labels: list(), Select: list(), Bears: list(), Near: list(), Apart: list()})
		for _, l := range mine {
			for j := range l {
				if i == 0 {
					l[j] = api.Label{Key: "written", Value: "later"}
				}
			}
		}
	}
	wantSame(t, "after the caller has written into the lists", b, other)
	if l := b.nodes["n"].labels; !slices.Equal(l, labels("a", "1", "zone", "2")) {
		t.Errorf("the node's labels: %v", l)
	}
	if q, there := b.pods["q"]; !there || !slices.Equal(q.apart, labels("a", "1", "zone", "2")) {
		t.Errorf("the pod: %+v", q)
	}
}

func TestP1NilIsAsGoodAsEmpty(t *testing.T) {
	b, other := made(t, 5), made(t, 5)
	e := []api.Label{}
	want(t, "PutNode", b.PutNode(api.Node{Name: "n"}), api.OK)
	want(t, "PutNode", other.PutNode(api.Node{Name: "n", Labels: e, Taints: e}), api.OK)
	want(t, "Bind", b.Bind(api.Pod{Name: "p"}, "n"), api.OK)
	want(t, "Bind", other.Bind(api.Pod{Name: "p", Labels: e, Select: e, Bears: e, Near: e, Apart: e}, "n"), api.OK)
	wantReply(t, b, api.Pod{Name: "q"}, api.Reply{Node: "n", Fresh: 1})
	wantReply(t, other, api.Pod{Name: "q", Labels: e, Select: e, Bears: e, Near: e, Apart: e}, api.Reply{Node: "n", Fresh: 1})
	queue(t, b, api.Pod{Name: "w"})
	queue(t, other, api.Pod{Name: "w", Labels: e, Select: e, Bears: e, Near: e, Apart: e})
	wantSame(t, "nil and empty lists", b, other)
	wantReplies(t, "Drain", b.Drain(1), []api.Reply{{Node: "n", Fresh: 1}})
	wantReplies(t, "Drain", other.Drain(1), []api.Reply{{Node: "n", Fresh: 1}})
	wantSame(t, "nil and empty lists, drained", b, other)
}

func TestP1ListsThatComeOutAreNew(t *testing.T) {
	b := filled(t)
	for range 2 {
		s := b.State()
		nodes, pods := s.Nodes[:cap(s.Nodes)], s.Pods[:cap(s.Pods)]
		for i := range nodes {
			nodes[i] = api.Use{Name: "written", Pods: -1}
		}
		for i := range pods {
			pods[i] = api.Lies{Name: "written", Since: -1}
		}
		wantSame(t, "after the caller has written into a state", b, filled(t))
		wantState(t, b, filled(t).State())
	}
}

func TestP1AStateStaysAsItWas(t *testing.T) {
	b := filled(t)
	s := b.State()
	b.DropNode("n1")
	b.Drop("p2")
	b.Tick(100)
	b.PutNode(api.Node{Name: "a"})
	b.Bind(api.Pod{Name: "a"}, "a")
	if !reflect.DeepEqual(s, filled(t).State()) {
		t.Errorf("a state that was told changed with the Berth")
	}
}
