package berth

import (
	"fmt"
	"strings"
	"testing"

	"berth/api"
)

// document is the Berth of the document's section 'Examples'.
func document(t *testing.T, c api.Config) *Berth {
	b := madeBy(t, c)
	b.PutNode(api.Node{Name: "a", Room: api.Amounts{10, 10, 0}, Labels: labels("zone", "x")})
	b.PutNode(api.Node{Name: "b", Room: api.Amounts{20, 10, 0}, Labels: labels("zone", "x", "disk", "fast")})
	b.PutNode(api.Node{Name: "c", Room: api.Amounts{20, 20, 5}, Taints: labels("load", "heavy")})
	return b
}

func TestP6Examples(t *testing.T) {
	for _, c := range settings(5) {
		b := document(t, c)
		heavy := labels("load", "heavy")
		wantReply(t, b, api.Pod{Name: "p1", Need: api.Amounts{5, 5, 0}}, api.Reply{Node: "b", Score: 75 + 50, Fresh: 3})
		wantReply(t, b, api.Pod{Name: "p2", Need: api.Amounts{5, 5, 0}}, api.Reply{Node: "a", Score: 50 + 50, Fresh: 1})
		wantReply(t, b, api.Pod{Name: "p3", Need: api.Amounts{0, 0, 1}, Bears: heavy}, api.Reply{Node: "c", Score: 280, Fresh: 1})
		wantReply(t, b, api.Pod{Name: "p4", Need: api.Amounts{0, 6, 0}, Select: labels("disk", "fast")}, unfit(1, "a1", "b1", "c3"))
		web := api.Pod{Name: "p5", Labels: labels("app", "web"), Apart: labels("app", "web")}
		wantReply(t, b, web, api.Reply{Node: "b", Score: 125})
		web.Name = "p6"
		wantReply(t, b, web, unfit(1, "a6", "b6", "c4"))
		web.Bears = heavy
		wantReply(t, b, web, api.Reply{Node: "c", Score: 280})
		want(t, "Confirm", b.Confirm("p2"), api.OK)
		want(t, "Tick", b.Tick(4), api.OK)
		wantReply(t, b, api.Pod{Name: "p7"}, api.Reply{Node: "b", Score: 125, Fresh: 1})
		want(t, "Tick", b.Tick(1), api.OK)
		wantState(t, b, api.State{
			Time:  5,
			Nodes: []api.Use{{Name: "a", Used: api.Amounts{5, 5, 0}, Pods: 1}, {Name: "b", Pods: 1}, {Name: "c"}},
			Pods:  []api.Lies{{Name: "p2", Node: "a", Bound: true}, {Name: "p7", Node: "b", Since: 4}},
		})
	}
}

func TestP6WithoutNodes(t *testing.T) {
	for _, c := range settings(5) {
		b := madeBy(t, c)
		wantReply(t, b, api.Pod{Name: "p"}, unfit(0))
		b.PutNode(api.Node{Name: "a"})
		b.DropNode("a")
		wantReply(t, b, api.Pod{Name: "p"}, unfit(0))
		wantState(t, b, api.State{})
	}
}

func TestP6LiesThereHeldAtTheTime(t *testing.T) {
	b := made(t, 9)
	b.PutNode(api.Node{Name: "a", Room: api.Amounts{9, 9, 9}})
	b.Tick(3)
	wantReply(t, b, api.Pod{Name: "p", Need: api.Amounts{1, 2, 3}}, api.Reply{Node: "a", Score: 88 + 77 + 66, Fresh: 1})
	wantState(t, b, api.State{
		Time:  3,
		Nodes: []api.Use{{Name: "a", Used: api.Amounts{1, 2, 3}, Pods: 1}},
		Pods:  []api.Lies{{Name: "p", Node: "a", Since: 3}},
	})
	want(t, "Confirm of one that was scheduled", b.Confirm("p"), api.OK)
	wantReply(t, b, api.Pod{Name: "p"}, api.Reply{Err: api.ErrTwice})
}

func TestP6NoFitChangesNothingThatIsThere(t *testing.T) {
	b := made(t, 9)
	b.PutNode(api.Node{Name: "a", Room: api.Amounts{9, 9, 9}})
	b.Bind(api.Pod{Name: "q", Need: api.Amounts{4, 0, 0}}, "a")
	before := b.State()
	wantReply(t, b, api.Pod{Name: "p", Need: api.Amounts{6, 0, 0}}, unfit(1, "a1"))
	wantState(t, b, before)
	want(t, "Bind of the name that found no node", b.Bind(api.Pod{Name: "p"}, "a"), api.OK)
}

func TestP6ErrorsInOrder(t *testing.T) {
	b := made(t, 5)
	b.PutNode(api.Node{Name: "a"})
	refused := func(what string, p api.Pod, e api.Errno) {
		t.Helper()
		before := b.State()
		if r := b.Schedule(p); !sameReply(r, api.Reply{Err: e}) {
			t.Errorf("%s: %+v, want the error %d alone", what, r, int(e))
		}
		wantState(t, b, before)
	}
	wantReply(t, b, api.Pod{Name: "p"}, api.Reply{Node: "a", Fresh: 1})
	refused("no pod, twice", api.Pod{Name: "p", Port: -1}, api.ErrPod)
	refused("twice", api.Pod{Name: "p"}, api.ErrTwice)
	refused("twice, no node takes it", api.Pod{Name: "p", Need: api.Amounts{1, 0, 0}}, api.ErrTwice)
	refused("no pod, no node takes it", api.Pod{Name: "q", Need: api.Amounts{1, 0, 0}, Select: keys(9)}, api.ErrPod)
	for i := range api.MaxPods - 1 {
		wantReply(t, b, api.Pod{Name: fmt.Sprint("p", i)}, api.Reply{Node: "a", Fresh: 1})
	}
	refused("no pod, full", api.Pod{Name: ""}, api.ErrPod)
	refused("no pod, twice, full", api.Pod{Name: "p", Need: api.Amounts{0, 0, -1}}, api.ErrPod)
	refused("twice, full", api.Pod{Name: "p"}, api.ErrTwice)
	refused("full", api.Pod{Name: "z"}, api.ErrFull)
	refused("full, no node takes it", api.Pod{Name: "z", Need: api.Amounts{1, 0, 0}}, api.ErrFull)
	b.Drop("p7")
	wantReply(t, b, api.Pod{Name: "z"}, api.Reply{Node: "a", Fresh: 1})
	b.DropNode("a")
	wantReply(t, b, api.Pod{Name: "z"}, unfit(0))
}

func TestP6FullCountsAllThatAreThere(t *testing.T) {
	b := made(t, 5)
	b.PutNode(api.Node{Name: "a"})
	b.PutNode(api.Node{Name: "b", Taints: labels("t", "v")})
	for i := range api.MaxPods - 1 {
		b.Bind(api.Pod{Name: fmt.Sprint("p", i)}, "b")
	}
	wantReply(t, b, api.Pod{Name: "last"}, api.Reply{Node: "a", Fresh: 2})
	wantReply(t, b, api.Pod{Name: "z"}, api.Reply{Err: api.ErrFull})
	want(t, "Bind, full", b.Bind(api.Pod{Name: "z"}, "b"), api.ErrFull)
	b.Tick(5)
	wantReply(t, b, api.Pod{Name: "z"}, api.Reply{Node: "a", Fresh: 1})
}

func TestP6TheGreatestScoreAndTheLeastName(t *testing.T) {
	for _, c := range settings(5) {
		b := madeBy(t, c)
		for _, name := range []string{"n2", "n10", "n-", "na", "n", "m9"} {
			b.PutNode(api.Node{Name: name, Room: api.Amounts{100, 0, 0}})
		}
		b.PutNode(api.Node{Name: "a", Room: api.Amounts{0, 0, 0}})
		one := api.Amounts{1, 0, 0}
		for i, node := range []string{"m9", "n", "n-", "n10", "n2", "na", "m9"} {
			score, fresh := 99-i/6, 1
			if i == 0 {
				fresh = 7
			}
			wantReply(t, b, api.Pod{Name: fmt.Sprint("p", i), Need: one}, api.Reply{Node: node, Score: score, Fresh: fresh})
		}
		b.PutNode(api.Node{Name: "z", Room: api.Amounts{101, 0, 0}})
		wantReply(t, b, api.Pod{Name: "q", Need: one}, api.Reply{Node: "z", Score: 99, Fresh: 2})
		wantReply(t, b, api.Pod{Name: "r", Need: one}, api.Reply{Node: "n", Score: 98, Fresh: 1})
	}
}

func TestP6ScoresThatAreEqualOnlyWhenRoundedTie(t *testing.T) {
	b := made(t, 5)
	b.PutNode(api.Node{Name: "b", Room: api.Amounts{1000, 0, 0}})
	b.PutNode(api.Node{Name: "a", Room: api.Amounts{999, 0, 0}})
	wantReply(t, b, api.Pod{Name: "p", Need: api.Amounts{1, 0, 0}}, api.Reply{Node: "a", Score: 99, Fresh: 2})
}

func TestP6TheReasonsThatComeOutAreNew(t *testing.T) {
	for _, c := range settings(5) {
		b := document(t, c)
		p := api.Pod{Name: "p", Need: api.Amounts{0, 21, 0}}
		for i := range 3 {
			r := b.Schedule(p)
			if i > 0 && !sameReply(r, unfit(0, "a1", "b1", "c1")) {
				t.Errorf("after the caller has written into the reasons: %+v", r)
			}
			all := r.Reasons[:cap(r.Reasons)]
			for j := range all {
				all[j] = api.Reason{Node: "written", Why: -1}
			}
		}
		r := b.Schedule(p)
		b.DropNode("a")
		b.PutNode(api.Node{Name: "b", Room: api.Amounts{0, 30, 0}})
		b.Schedule(p)
		if !sameReply(r, unfit(0, "a1", "b1", "c1")) {
			t.Errorf("a reply that was told changed with the Berth: %+v", r)
		}
	}
}

func TestP6AllNodesTellTheirReason(t *testing.T) {
	b := made(t, 5)
	var told []string
	for i := range api.MaxNodes {
		b.PutNode(api.Node{Name: fmt.Sprintf("n%02d", (i*7)%api.MaxNodes)})
		told = append(told, fmt.Sprintf("n%02d", i)+"3")
	}
	wantReply(t, b, api.Pod{Name: "p", Select: labels("disk", "fast")}, unfit(api.MaxNodes, told...))
}

// TestP6TheNameOfThePodDoesNotCount: a pod's labels count, not its name, nor that of a node.
func TestP6TheNameOfThePodDoesNotCount(t *testing.T) {
	for _, c := range settings(5) {
		b := madeBy(t, c)
		b.PutNode(api.Node{Name: "a"})
		wantReply(t, b, api.Pod{Name: strings.Repeat("z", api.MaxName)}, api.Reply{Node: "a", Fresh: 1})
		wantReply(t, b, api.Pod{Name: "a"}, api.Reply{Node: "a", Fresh: 1})
		wantReply(t, b, api.Pod{Name: "zone"}, api.Reply{Node: "a", Fresh: 1})
	}
}
