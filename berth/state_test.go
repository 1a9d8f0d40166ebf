package berth

import (
	"fmt"
	"testing"

	"berth/api"
)

func TestP8NamesRiseByteByByte(t *testing.T) {
	rising := []string{"-", "--", "-a", "0", "0-", "10", "2", "9z", "a", "a-", "a0", "aa", "ab", "b", "z", "zzzzzzzzzzzzzzzzzzzz"}
	b := made(t, 5)
	for i := range rising {
		name := rising[(i*7+3)%len(rising)]
		want(t, "PutNode", b.PutNode(api.Node{Name: name}), api.OK)
		want(t, "Bind", b.Bind(api.Pod{Name: name}, name), api.OK)
	}
	var there api.State
	for _, name := range rising {
		there.Nodes = append(there.Nodes, api.Use{Name: name, Pods: 1})
		there.Pods = append(there.Pods, api.Lies{Name: name, Node: name, Bound: true})
	}
	wantState(t, b, there)
}

func TestP8UsedIsTheSumOfEachAmount(t *testing.T) {
	b := made(t, 5)
	b.PutNode(api.Node{Name: "a", Room: api.Amounts{7, 7, 7}})
	b.PutNode(api.Node{Name: "b"})
	for i := range api.MaxPods {
		need := api.Amounts{i, api.MaxAmount, 0}
		want(t, "Bind", b.Bind(api.Pod{Name: fmt.Sprint("p", i), Need: need}, "b"), api.OK)
	}
	s := b.State()
	if s.Nodes[0] != (api.Use{Name: "a"}) {
		t.Errorf("%+v", s.Nodes[0])
	}
	if s.Nodes[1] != (api.Use{Name: "b", Used: api.Amounts{127 * 64, 128 * api.MaxAmount, 0}, Pods: 128}) {
		t.Errorf("%+v", s.Nodes[1])
	}
}

func TestP8HeldAndBound(t *testing.T) {
	b := made(t, 50)
	b.PutNode(api.Node{Name: "n"})
	hold(b, api.Pod{Name: "c"}, "n")
	b.Tick(4)
	hold(b, api.Pod{Name: "a"}, "n")
	b.Tick(5)
	b.Bind(api.Pod{Name: "b"}, "n")
	hold(b, api.Pod{Name: "d"}, "n")
	b.Confirm("a")
	wantState(t, b, api.State{
		Time:  9,
		Nodes: []api.Use{{Name: "n", Pods: 4}},
		Pods: []api.Lies{
			{Name: "a", Node: "n", Bound: true, Since: 4},
			{Name: "b", Node: "n", Bound: true},
			{Name: "c", Node: "n"},
			{Name: "d", Node: "n", Since: 9},
		},
	})
}
