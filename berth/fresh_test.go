package berth

import (
	"testing"

	"berth/api"
)

// wantFresh asks by a pod that no node takes, so that the asking is no change of its own.
func wantFresh(t *testing.T, what string, b *Berth, n int) {
	t.Helper()
	r := b.Schedule(api.Pod{Name: "asking", Select: labels("no", "such")})
	if r.Err != api.ErrFit || r.Fresh != n {
		t.Errorf("%s: error %d, Fresh %d, want %d", what, int(r.Err), r.Fresh, n)
	}
}

// settled is a Berth with the nodes a, b and c, all without a change since the last Schedule.
func settled(t *testing.T, c api.Config) *Berth {
	b := madeBy(t, c)
	for _, name := range []string{"a", "b", "c"} {
		b.PutNode(api.Node{Name: name, Room: api.Amounts{9, 9, 9}, Labels: labels("zone", "x")})
	}
	b.Bind(api.Pod{Name: "q"}, "b")
	wantFresh(t, "since the beginning", b, 3)
	wantFresh(t, "since nothing", b, 0)
	return b
}

func TestP6Fresh(t *testing.T) {
	for what, c := range map[string]struct {
		change func(b *Berth)
		fresh  int
	}{
		"put anew as it was": {func(b *Berth) {
			b.PutNode(api.Node{Name: "a", Room: api.Amounts{9, 9, 9}, Labels: labels("zone", "x")})
		}, 1},
		"put anew twice":         {func(b *Berth) { b.PutNode(api.Node{Name: "a"}); b.PutNode(api.Node{Name: "a"}) }, 1},
		"one more put":           {func(b *Berth) { b.PutNode(api.Node{Name: "d"}) }, 1},
		"two put":                {func(b *Berth) { b.PutNode(api.Node{Name: "d"}); b.PutNode(api.Node{Name: "a"}) }, 2},
		"no node put":            {func(b *Berth) { b.PutNode(api.Node{Name: "a", Room: api.Amounts{-1, 0, 0}}) }, 0},
		"bound":                  {func(b *Berth) { b.Bind(api.Pod{Name: "p"}, "a") }, 1},
		"bound, two on one":      {func(b *Berth) { b.Bind(api.Pod{Name: "p"}, "a"); b.Bind(api.Pod{Name: "r"}, "a") }, 1},
		"bound, two on two":      {func(b *Berth) { b.Bind(api.Pod{Name: "p"}, "a"); b.Bind(api.Pod{Name: "r"}, "c") }, 2},
		"bound in vain":          {func(b *Berth) { b.Bind(api.Pod{Name: "q"}, "a"); b.Bind(api.Pod{Name: "p"}, "x") }, 0},
		"dropped":                {func(b *Berth) { b.Drop("q") }, 1},
		"dropped in vain":        {func(b *Berth) { b.Drop("p"); b.DropNode("x") }, 0},
		"came and went":          {func(b *Berth) { b.Bind(api.Pod{Name: "p"}, "a"); b.Drop("p") }, 1},
		"a node dropped":         {func(b *Berth) { b.DropNode("b") }, 0},
		"changed, then dropped":  {func(b *Berth) { b.Drop("q"); b.DropNode("b") }, 0},
		"put, then dropped":      {func(b *Berth) { b.PutNode(api.Node{Name: "d"}); b.DropNode("d") }, 0},
		"dropped and put again":  {func(b *Berth) { b.DropNode("a"); b.PutNode(api.Node{Name: "a"}) }, 1},
		"time, and nothing more": {func(b *Berth) { b.Tick(0); b.Tick(100) }, 0},
		"looked at":              {func(b *Berth) { b.State() }, 0},
	} {
		for _, conf := range settings(5) {
			b := settled(t, conf)
			c.change(b)
			wantFresh(t, what, b, c.fresh)
			wantFresh(t, what+", then nothing", b, 0)
		}
	}
}

func TestP6FreshAfterPodsThatWereScheduled(t *testing.T) {
	for _, c := range settings(5) {
		b := settled(t, c)
		wantReply(t, b, api.Pod{Name: "p", Need: api.Amounts{9, 0, 0}}, api.Reply{Node: "a", Score: 200})
		wantReply(t, b, api.Pod{Name: "r", Need: api.Amounts{9, 0, 0}}, api.Reply{Node: "b", Score: 200, Fresh: 1})
		wantFresh(t, "scheduled", b, 1)
		wantFresh(t, "scheduled, then nothing", b, 0)
		want(t, "Confirm", b.Confirm("p"), api.OK)
		want(t, "Confirm", b.Confirm("p"), api.ErrState)
		wantFresh(t, "confirmed", b, 0)
		want(t, "Tick", b.Tick(4), api.OK)
		wantFresh(t, "time, ahead of the end", b, 0)
		want(t, "Tick", b.Tick(1), api.OK)
		wantFresh(t, "timed out", b, 1)
		wantFresh(t, "timed out, then nothing", b, 0)
	}
}

func TestP6FreshAfterAScheduleThatWasRefused(t *testing.T) {
	for _, c := range settings(5) {
		b := settled(t, c)
		b.PutNode(api.Node{Name: "a"})
		wantReply(t, b, api.Pod{Name: ""}, api.Reply{Err: api.ErrPod})
		wantReply(t, b, api.Pod{Name: "q"}, api.Reply{Err: api.ErrTwice})
		wantFresh(t, "refused, the change is still new", b, 1)
		for i := range api.MaxPods - 1 {
			b.Bind(api.Pod{Name: string(rune('a'+i%26)) + string(rune('a'+i/26))}, "c")
		}
		wantReply(t, b, api.Pod{Name: "asking"}, api.Reply{Err: api.ErrFull})
		b.Drop("q")
		wantFresh(t, "full, the changes are still new", b, 2)
	}
}

func TestP6FreshSinceTheBeginning(t *testing.T) {
	b := made(t, 5)
	wantReply(t, b, api.Pod{Name: ""}, api.Reply{Err: api.ErrPod})
	b.PutNode(api.Node{Name: "a"})
	b.PutNode(api.Node{Name: "b"})
	b.DropNode("a")
	wantFresh(t, "since the beginning", b, 1)
}
