package berth

import (
	"fmt"
	"math"
	"testing"

	"berth/api"
)

func TestP5Bind(t *testing.T) {
	b := made(t, 5)
	b.PutNode(api.Node{Name: "a", Room: api.Amounts{1, 1, 1}, Taints: labels("load", "heavy")})
	b.Tick(7)
	most := api.Amounts{api.MaxAmount, 0, 2}
	want(t, "Bind without room", b.Bind(api.Pod{Name: "p", Need: most, Port: 80, Select: labels("disk", "fast")}, "a"), api.OK)
	want(t, "Bind of the same port", b.Bind(api.Pod{Name: "q", Need: most, Port: 80, Near: labels("x", "y")}, "a"), api.OK)
	wantState(t, b, api.State{
		Time:  7,
		Nodes: []api.Use{{Name: "a", Used: api.Amounts{2 * api.MaxAmount, 0, 4}, Pods: 2}},
		Pods:  []api.Lies{{Name: "p", Node: "a", Bound: true}, {Name: "q", Node: "a", Bound: true}},
	})
}

func TestP5BindErrorsInOrder(t *testing.T) {
	b := made(t, 5)
	b.PutNode(api.Node{Name: "a"})
	good, bad := api.Pod{Name: "p"}, api.Pod{Name: "p", Port: -1}
	want(t, "no pod, no node", b.Bind(bad, "x"), api.ErrPod)
	want(t, "no node", b.Bind(good, "x"), api.ErrNone)
	want(t, "no name of a node", b.Bind(good, ""), api.ErrNone)
	want(t, "Bind", b.Bind(good, "a"), api.OK)
	want(t, "no pod, no node, twice", b.Bind(bad, "x"), api.ErrPod)
	want(t, "no pod, twice", b.Bind(bad, "a"), api.ErrPod)
	want(t, "no node, twice", b.Bind(good, "x"), api.ErrNone)
	want(t, "twice", b.Bind(good, "a"), api.ErrTwice)
	for i := range api.MaxPods - 1 {
		want(t, "Bind", b.Bind(api.Pod{Name: fmt.Sprint("p", i)}, "a"), api.OK)
	}
	want(t, "no pod, full", b.Bind(api.Pod{Name: ""}, "a"), api.ErrPod)
	want(t, "no node, full", b.Bind(api.Pod{Name: "z"}, "x"), api.ErrNone)
	want(t, "twice, full", b.Bind(good, "a"), api.ErrTwice)
	want(t, "full", b.Bind(api.Pod{Name: "z"}, "a"), api.ErrFull)
	want(t, "Drop", b.Drop("p7"), api.OK)
	want(t, "Bind, where there is room again", b.Bind(api.Pod{Name: "z"}, "a"), api.OK)
	want(t, "full", b.Bind(api.Pod{Name: "p7"}, "a"), api.ErrFull)
}

func TestP5FullCountsAllNodesAndHeldPods(t *testing.T) {
	b := made(t, 5)
	b.PutNode(api.Node{Name: "a"})
	b.PutNode(api.Node{Name: "b"})
	for i := range api.MaxPods - 1 {
		b.Bind(api.Pod{Name: fmt.Sprint("p", i)}, []string{"a", "b"}[i%2])
	}
	hold(b, api.Pod{Name: "held"}, "b")
	want(t, "Bind, full", b.Bind(api.Pod{Name: "z"}, "a"), api.ErrFull)
	want(t, "Bind of a name that is held", b.Bind(api.Pod{Name: "held"}, "a"), api.ErrTwice)
	want(t, "Tick", b.Tick(5), api.OK)
	want(t, "Bind, when the held one is gone", b.Bind(api.Pod{Name: "held"}, "a"), api.OK)
}

func TestP5Confirm(t *testing.T) {
	b := made(t, 5)
	b.PutNode(api.Node{Name: "a"})
	b.Tick(3)
	hold(b, api.Pod{Name: "p"}, "a")
	b.Bind(api.Pod{Name: "q"}, "a")
	want(t, "Confirm of none", b.Confirm("r"), api.ErrNone)
	want(t, "Confirm of no name", b.Confirm(""), api.ErrNone)
	want(t, "Confirm of a node's name", b.Confirm("a"), api.ErrNone)
	want(t, "Confirm of one that was bound", b.Confirm("q"), api.ErrState)
	want(t, "Tick", b.Tick(4), api.OK)
	want(t, "Confirm of one that is held", b.Confirm("p"), api.OK)
	want(t, "Confirm once more", b.Confirm("p"), api.ErrState)
	want(t, "Tick", b.Tick(1000), api.OK)
	wantState(t, b, api.State{
		Time:  1007,
		Nodes: []api.Use{{Name: "a", Pods: 2}},
		Pods:  []api.Lies{{Name: "p", Node: "a", Bound: true, Since: 3}, {Name: "q", Node: "a", Bound: true}},
	})
}

func TestP5Drop(t *testing.T) {
	b := made(t, 5)
	b.PutNode(api.Node{Name: "a"})
	want(t, "Drop of none", b.Drop("p"), api.ErrNone)
	b.Bind(api.Pod{Name: "p", Need: api.Amounts{1, 2, 3}}, "a")
	hold(b, api.Pod{Name: "q", Need: api.Amounts{10, 20, 30}}, "a")
	want(t, "Drop of a node's name", b.Drop("a"), api.ErrNone)
	want(t, "Drop of one that is bound", b.Drop("p"), api.OK)
	wantState(t, b, api.State{Nodes: []api.Use{{Name: "a", Used: api.Amounts{10, 20, 30}, Pods: 1}}, Pods: []api.Lies{{Name: "q", Node: "a"}}})
	want(t, "Drop of one that is held", b.Drop("q"), api.OK)
	wantState(t, b, api.State{Nodes: []api.Use{{Name: "a"}}})
	want(t, "Drop once more", b.Drop("p"), api.ErrNone)
	want(t, "Bind of the name anew", b.Bind(api.Pod{Name: "p"}, "a"), api.OK)
}

func TestP5TickEndsHolds(t *testing.T) {
	for _, length := range []int{1, 5, api.MaxHold} {
		b := made(t, length)
		b.PutNode(api.Node{Name: "a"})
		hold(b, api.Pod{Name: "early"}, "a")
		want(t, "Tick", b.Tick(0), api.OK)
		want(t, "Tick to one ahead of the end", b.Tick(length-1), api.OK)
		hold(b, api.Pod{Name: "late"}, "a")
		if n := len(b.State().Pods); n != 2 {
			t.Errorf("Hold %d: %d pods one tick ahead of the end", length, n)
		}
		want(t, "Tick to the end", b.Tick(1), api.OK)
		left := api.State{Time: length, Nodes: []api.Use{{Name: "a", Pods: 1}}, Pods: []api.Lies{{Name: "late", Node: "a", Since: length - 1}}}
		if length == 1 {
			left.Nodes[0].Pods, left.Pods = 0, nil
		}
		wantState(t, b, left)
		want(t, "Tick far past the end", b.Tick(api.MaxTick), api.OK)
		wantState(t, b, api.State{Time: length + api.MaxTick, Nodes: []api.Use{{Name: "a"}}})
	}
}

func TestP5TickPastTheEndAtOnce(t *testing.T) {
	b := made(t, 5)
	b.PutNode(api.Node{Name: "a"})
	hold(b, api.Pod{Name: "p", Need: api.Amounts{1, 1, 1}}, "a")
	b.Bind(api.Pod{Name: "q"}, "a")
	want(t, "Tick", b.Tick(6), api.OK)
	wantState(t, b, api.State{Time: 6, Nodes: []api.Use{{Name: "a", Pods: 1}}, Pods: []api.Lies{{Name: "q", Node: "a", Bound: true}}})
}

func TestP5WrongTicks(t *testing.T) {
	b := made(t, 1)
	b.PutNode(api.Node{Name: "a"})
	hold(b, api.Pod{Name: "p"}, "a")
	for _, n := range []int{-1, api.MaxTick + 1, math.MaxInt, math.MinInt, -api.MaxTick, math.MaxInt - api.MaxTime} {
		want(t, fmt.Sprint("Tick ", n), b.Tick(n), api.ErrTime)
	}
	wantState(t, b, api.State{Nodes: []api.Use{{Name: "a", Pods: 1}}, Pods: []api.Lies{{Name: "p", Node: "a"}}})
	want(t, "Tick of the most", b.Tick(api.MaxTick), api.OK)
	wantState(t, b, api.State{Time: api.MaxTick, Nodes: []api.Use{{Name: "a"}}})
}

func TestP5TheGreatestTime(t *testing.T) {
	b := made(t, 5)
	b.PutNode(api.Node{Name: "a"})
	for range api.MaxTime / api.MaxTick {
		if e := b.Tick(api.MaxTick); e != api.OK {
			t.Fatalf("Tick at %d: %v", b.time, e)
		}
	}
	left := api.MaxTime % api.MaxTick
	want(t, "Tick past the greatest time", b.Tick(left+1), api.ErrTime)
	want(t, "Tick past the greatest time", b.Tick(api.MaxTick), api.ErrTime)
	want(t, "Tick to one ahead of it", b.Tick(left-1), api.OK)
	hold(b, api.Pod{Name: "p"}, "a")
	want(t, "Tick past it", b.Tick(2), api.ErrTime)
	want(t, "Tick to it", b.Tick(1), api.OK)
	want(t, "Tick of nothing", b.Tick(0), api.OK)
	want(t, "Tick past it", b.Tick(1), api.ErrTime)
	want(t, "Tick past it", b.Tick(math.MaxInt), api.ErrTime)
	wantState(t, b, api.State{Time: api.MaxTime, Nodes: []api.Use{{Name: "a", Pods: 1}}, Pods: []api.Lies{{Name: "p", Node: "a", Since: api.MaxTime - 1}}})
	want(t, "Confirm at the greatest time", b.Confirm("p"), api.OK)
}
