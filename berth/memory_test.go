package berth

import (
	"fmt"
	"maps"
	"slices"
	"testing"

	"berth/api"
)

func TestP9AHeldPodGoesAsIfItHadBeenDropped(t *testing.T) {
	for _, c := range settings(3) {
		b, other := document(t, c), document(t, c)
		for _, at := range []*Berth{b, other} {
			at.Tick(2)
			wantReply(t, at, api.Pod{Name: "p", Need: api.Amounts{20, 0, 0}, Port: 80, Labels: labels("app", "web"), Apart: labels("app", "web")}, api.Reply{Node: "b", Score: 100, Fresh: 3})
			wantReply(t, at, api.Pod{Name: "q", Need: api.Amounts{11, 0, 0}}, unfit(1, "a1", "b1", "c4"))
			at.Tick(2)
			wantReply(t, at, api.Pod{Name: "q", Labels: labels("app", "web")}, unfit(0, "a6", "b6", "c4"))
		}
		want(t, "Tick", b.Tick(1), api.OK)
		want(t, "Confirm of what is gone", b.Confirm("p"), api.ErrNone)
		want(t, "Drop of what is gone", b.Drop("p"), api.ErrNone)
		want(t, "Confirm", other.Confirm("p"), api.OK)
		want(t, "Tick", other.Tick(1), api.OK)
		want(t, "Drop", other.Drop("p"), api.OK)
		wantSame(t, "timed out, and dropped", b, other)
		wantReply(t, b, api.Pod{Name: "q", Labels: labels("app", "web")}, api.Reply{Node: "a", Score: 200, Fresh: 1})
		wantReply(t, b, api.Pod{Name: "p", Need: api.Amounts{11, 0, 0}, Port: 80}, api.Reply{Node: "b", Score: 145, Fresh: 1})
	}
}

func TestP9NeverOverfull(t *testing.T) {
	for _, c := range settings(3) {
		b := madeBy(t, c)
		b.PutNode(api.Node{Name: "a", Room: api.Amounts{10, 7, 0}})
		b.PutNode(api.Node{Name: "b", Room: api.Amounts{4, 9, 1}})
		ports := map[string]int{}
		for i := range 40 {
			p := api.Pod{Name: fmt.Sprint("p", i), Need: api.Amounts{i % 3, (i + 1) % 2, i % 7 / 6}, Port: i % 5}
			if r := b.Schedule(p); r.Err == api.OK && p.Port > 0 {
				ports[fmt.Sprint(r.Node, " ", p.Port)]++
			}
			s := b.State()
			for j, room := range []api.Amounts{{10, 7, 0}, {4, 9, 1}} {
				for k := range room {
					if s.Nodes[j].Used[k] > room[k] {
						t.Fatalf("%+v: used of %+v", s.Nodes[j], room)
					}
				}
			}
		}
		for what, n := range ports {
			if n > 1 {
				t.Errorf("node and port %s: %d times", what, n)
			}
		}
	}
}

// TestP9WhatIsRememberedIsBounded asks for kinds of pods without end, and for each of them once more.
func TestP9WhatIsRememberedIsBounded(t *testing.T) {
	b := document(t, api.Config{Hold: 5, Remember: true})
	for i := range 10 * mostKinds {
		p := api.Pod{Name: "p", Need: api.Amounts{21 + i, 0, 0}}
		for range 2 {
			if r := b.Schedule(p); r.Err != api.ErrFit || len(r.Reasons) != 3 {
				t.Fatalf("%+v: %+v", p, r)
			}
		}
		if n := len(b.memory.answers); n < 1 || n > mostKinds {
			t.Fatalf("%d kinds are remembered", n)
		}
	}
	b.PutNode(api.Node{Name: "b", Room: api.Amounts{api.MaxAmount, 0, 0}})
	wantReply(t, b, api.Pod{Name: "p", Need: api.Amounts{21 + 10*mostKinds - 1, 0, 0}}, api.Reply{Node: "b", Score: 99, Fresh: 1})
}

func TestP9WithoutRememberNoAnswerIsRemembered(t *testing.T) {
	for _, c := range settings(5) {
		b := document(t, c)
		b.Schedule(api.Pod{Name: "p"})
		b.Schedule(api.Pod{Name: "q", Port: 7})
		if n := len(b.memory.answers); n != 0 && !c.Remember {
			t.Errorf("%d kinds are remembered", n)
		}
	}
}

// TestP9NothingIsRememberedOfWhatIsGone looks at all that is remembered after nodes and pods went.
func TestP9NothingIsRememberedOfWhatIsGone(t *testing.T) {
	for _, c := range settings(5) {
		b := document(t, c)
		b.Schedule(api.Pod{Name: "p"})
		b.Schedule(api.Pod{Name: "q", Port: 7})
		b.DropNode("b")
		b.PutNode(api.Node{Name: "d"})
		b.DropNode("d")
		b.Tick(5)
		for _, known := range b.memory.answers {
			if names := slices.Sorted(maps.Keys(known)); slices.Contains(names, "b") || slices.Contains(names, "a") {
				t.Errorf("answers of %v are remembered", names)
			}
		}
		if _, there := b.memory.views["b"]; there {
			t.Errorf("a view of b is remembered")
		}
		for _, name := range []string{"a", "b", "c"} {
			b.DropNode(name)
		}
		if len(b.memory.views)+len(b.memory.fresh) > 0 {
			t.Errorf("without nodes: %+v", b.memory)
		}
		for _, known := range b.memory.answers {
			if len(known) > 0 {
				t.Errorf("without nodes: %+v", known)
			}
		}
	}
}

// TestP9KindsAreToldApart asks for pods that are alike but for one thing each, the one behind the other: none may get another's answer.
func TestP9KindsAreToldApart(t *testing.T) {
	b := madeBy(t, api.Config{Hold: 5, Remember: true})
	b.PutNode(api.Node{Name: "n", Room: api.Amounts{3, 3, 3}, Labels: labels("k", "v")})
	b.Bind(api.Pod{Name: "q", Port: 5, Labels: labels("k", "v"), Apart: labels("k", "w")}, "n")
	b.PutNode(api.Node{Name: "z", Taints: labels("k", "v")})
	wantWhy(t, "a label to select by", b, api.Pod{Select: labels("k", "w")}, map[string]int{"n": 3, "z": 3})
	wantWhy(t, "a label that is borne", b, api.Pod{Select: labels("k", "w"), Bears: labels("k", "v")}, map[string]int{"n": 3, "z": 3})
	wantWhy(t, "a port, and a label to select by", b, api.Pod{Select: labels("k", "w"), Port: 5}, map[string]int{"n": 2, "z": 3})
	wantWhy(t, "an amount", b, api.Pod{Need: api.Amounts{0, 4, 0}}, map[string]int{"n": 1, "z": 1})
	wantWhy(t, "another amount", b, api.Pod{Need: api.Amounts{0, 0, 4}}, map[string]int{"n": 1, "z": 1})
	wantWhy(t, "a port", b, api.Pod{Port: 5}, map[string]int{"n": 2, "z": 4})
	wantWhy(t, "near", b, api.Pod{Near: labels("k", "w")}, map[string]int{"n": 5, "z": 4})
	wantWhy(t, "apart", b, api.Pod{Apart: labels("k", "v")}, map[string]int{"n": 6, "z": 4})
	wantWhy(t, "labels", b, api.Pod{Labels: labels("k", "w")}, map[string]int{"n": 6, "z": 4})
	wantWhy(t, "apart, and borne", b, api.Pod{Apart: labels("k", "v"), Select: labels("k", "v"), Bears: labels("k", "v")}, map[string]int{"n": 6, "z": 3})
	wantReply(t, b, api.Pod{Name: "p", Select: labels("k", "v")}, api.Reply{Node: "n", Score: 300})
	wantReply(t, b, api.Pod{Name: "r", Bears: labels("k", "v"), Labels: labels("k", "w")}, api.Reply{Node: "z", Fresh: 1})
	if n := len(b.memory.answers); n != 12 {
		t.Errorf("%d kinds are remembered", n)
	}
}
