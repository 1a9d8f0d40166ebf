package berth

import (
	"fmt"
	"testing"

	"berth/api"
)

func TestP4PutAndDrop(t *testing.T) {
	b := made(t, 5)
	want(t, "DropNode of none", b.DropNode("a"), api.ErrNone)
	want(t, "PutNode", b.PutNode(api.Node{Name: "a"}), api.OK)
	want(t, "PutNode of no node", b.PutNode(api.Node{Name: "b", Labels: labels("k", "v", "k", "w")}), api.ErrNode)
	wantState(t, b, api.State{Nodes: []api.Use{{Name: "a"}}})
	want(t, "DropNode of none", b.DropNode("b"), api.ErrNone)
	want(t, "DropNode of no name", b.DropNode(""), api.ErrNone)
	want(t, "DropNode", b.DropNode("a"), api.OK)
	wantState(t, b, api.State{})
	want(t, "DropNode once more", b.DropNode("a"), api.ErrNone)
}

func TestP4PutInPlace(t *testing.T) {
	b := made(t, 5)
	b.PutNode(api.Node{Name: "a", Room: api.Amounts{1, 2, 3}, Labels: labels("zone", "x"), Taints: labels("t", "v")})
	b.Bind(api.Pod{Name: "p", Need: api.Amounts{4, 5, 6}}, "a")
	b.Tick(2)
	hold(b, api.Pod{Name: "q", Need: api.Amounts{1, 1, 1}}, "a")
	there := api.State{
		Time:  2,
		Nodes: []api.Use{{Name: "a", Used: api.Amounts{5, 6, 7}, Pods: 2}},
		Pods:  []api.Lies{{Name: "p", Node: "a", Bound: true}, {Name: "q", Node: "a", Since: 2}},
	}
	wantState(t, b, there)
	want(t, "PutNode anew", b.PutNode(api.Node{Name: "a", Room: api.Amounts{9, 8, 7}, Labels: labels("zone", "y")}), api.OK)
	wantState(t, b, there)
	other := made(t, 5)
	other.PutNode(api.Node{Name: "a", Room: api.Amounts{9, 8, 7}, Labels: labels("zone", "y")})
	other.Tick(2)
	other.Bind(api.Pod{Name: "p", Need: api.Amounts{4, 5, 6}}, "a")
	hold(other, api.Pod{Name: "q", Need: api.Amounts{1, 1, 1}}, "a")
	wantSame(t, "a node put anew", b, other)
}

func TestP4DropTakesWhatLiesOnIt(t *testing.T) {
	b := made(t, 5)
	for _, n := range []string{"a", "b", "c"} {
		b.PutNode(api.Node{Name: n})
	}
	for i, n := range []string{"a", "b", "a", "c", "b", "a"} {
		b.Bind(api.Pod{Name: fmt.Sprint("p", i), Need: api.Amounts{1, 0, i}}, n)
	}
	hold(b, api.Pod{Name: "held"}, "a")
	want(t, "DropNode", b.DropNode("a"), api.OK)
	left := api.State{
		Nodes: []api.Use{{Name: "b", Used: api.Amounts{2, 0, 5}, Pods: 2}, {Name: "c", Used: api.Amounts{1, 0, 3}, Pods: 1}},
		Pods:  []api.Lies{{Name: "p1", Node: "b", Bound: true}, {Name: "p3", Node: "c", Bound: true}, {Name: "p4", Node: "b", Bound: true}},
	}
	wantState(t, b, left)
	want(t, "Drop of what is gone", b.Drop("p0"), api.ErrNone)
	want(t, "Confirm of what is gone", b.Confirm("held"), api.ErrNone)
	want(t, "Bind to what is gone", b.Bind(api.Pod{Name: "p0"}, "a"), api.ErrNone)
	want(t, "PutNode once more", b.PutNode(api.Node{Name: "a"}), api.OK)
	left.Nodes = append([]api.Use{{Name: "a"}}, left.Nodes...)
	wantState(t, b, left)
	want(t, "Bind of a name that is free", b.Bind(api.Pod{Name: "p0"}, "c"), api.OK)
}

func TestP4Full(t *testing.T) {
	b := made(t, 5)
	for i := range api.MaxNodes {
		want(t, fmt.Sprint("PutNode ", i), b.PutNode(api.Node{Name: fmt.Sprint("n", i)}), api.OK)
	}
	want(t, "PutNode of one more", b.PutNode(api.Node{Name: "z"}), api.ErrFull)
	want(t, "PutNode of no node, where it is full", b.PutNode(api.Node{Name: "Z"}), api.ErrNode)
	want(t, "PutNode of one that is there", b.PutNode(api.Node{Name: "n31", Room: api.Amounts{1, 1, 1}}), api.OK)
	if n := len(b.State().Nodes); n != api.MaxNodes {
		t.Errorf("%d nodes", n)
	}
	want(t, "DropNode", b.DropNode("n0"), api.OK)
	want(t, "PutNode, where there is room again", b.PutNode(api.Node{Name: "z"}), api.OK)
	want(t, "PutNode of one more", b.PutNode(api.Node{Name: "n0"}), api.ErrFull)
}
