package berth

import (
	"reflect"
	"slices"
	"testing"

	"berth/api"
)

// labels makes a list from key, value, key, value.
func labels(s ...string) []api.Label {
	var out []api.Label
	for i := 0; i+1 < len(s); i += 2 {
		out = append(out, api.Label{Key: s[i], Value: s[i+1]})
	}
	return out
}

// keys makes a list of n labels with keys of their own.
func keys(n int) []api.Label {
	var out []api.Label
	for i := range n {
		out = append(out, api.Label{Key: string(rune('a' + i)), Value: "v"})
	}
	return out
}

func made(t *testing.T, hold int) *Berth {
	t.Helper()
	return madeBy(t, api.Config{Hold: hold})
}

func madeBy(t *testing.T, c api.Config) *Berth {
	t.Helper()
	b, e := New(c)
	if b == nil || e != api.OK {
		t.Fatalf("New(%+v): %v, %v", c, b, e)
	}
	return b
}

// settings are the four of c.Remember and c.Whole, on which no answer hangs.
func settings(hold int) []api.Config {
	return []api.Config{{Hold: hold}, {Hold: hold, Remember: true}, {Hold: hold, Whole: true}, {Hold: hold, Remember: true, Whole: true}}
}

func want(t *testing.T, what string, got, want api.Errno) {
	t.Helper()
	if got != want {
		t.Errorf("%s: %d, want %d", what, int(got), int(want))
	}
}

// wantState holds two states against each other; nil is as good as an empty list.
func wantState(t *testing.T, b *Berth, want api.State) {
	t.Helper()
	if got := b.State(); !sameState(got, want) {
		t.Errorf("state:\n%+v\nwant:\n%+v", got, want)
	}
}

func sameState(a, b api.State) bool {
	return a.Time == b.Time && a.Waiting == b.Waiting && slices.Equal(a.Nodes, b.Nodes) && slices.Equal(a.Pods, b.Pods)
}

// wantSame holds all that two Berths keep against each other, not only what State tells.
func wantSame(t *testing.T, what string, got, want *Berth) {
	t.Helper()
	one, other := *got, *want
	one.waiting, other.waiting = nil, nil // two channels are never the same: what lies in them may be
	if !reflect.DeepEqual(one, other) {
		t.Errorf("%s: kept:\n%+v\nwant:\n%+v", what, one, other)
	}
	if l, m := waits(got), waits(want); !reflect.DeepEqual(l, m) {
		t.Errorf("%s: there wait:\n%+v\nwant:\n%+v", what, l, m)
	}
}

// waits is what waits, in its order; it goes on waiting.
func waits(b *Berth) []api.Pod {
	var out []api.Pod
	for range len(b.waiting) {
		out = append(out, <-b.waiting)
	}
	for _, p := range out {
		b.waiting <- p
	}
	return out
}

// hold lays a pod as one that is scheduled now.
func hold(b *Berth, p api.Pod, node string) {
	b.lay(p, node, held, b.time)
}

// unfit is a reply that no node takes a pod, with reasons written as a1, b6.
func unfit(fresh int, told ...string) api.Reply {
	r := api.Reply{Err: api.ErrFit, Fresh: fresh}
	for _, s := range told {
		r.Reasons = append(r.Reasons, api.Reason{Node: s[:len(s)-1], Why: int(s[len(s)-1] - '0')})
	}
	return r
}

// sameReply holds two replies against each other; nil is as good as an empty list.
func sameReply(a, b api.Reply) bool {
	return a.Err == b.Err && a.Node == b.Node && a.Score == b.Score && a.Fresh == b.Fresh && slices.Equal(a.Reasons, b.Reasons)
}

func wantReply(t *testing.T, b *Berth, p api.Pod, want api.Reply) {
	t.Helper()
	if got := b.Schedule(p); !sameReply(got, want) {
		t.Errorf("Schedule of %+v:\n%+v\nwant:\n%+v", p, got, want)
	}
}

// wantReplies holds replies against each other; nil is as good as an empty list.
func wantReplies(t *testing.T, what string, got, want []api.Reply) {
	t.Helper()
	if !slices.EqualFunc(got, want, sameReply) {
		t.Errorf("%s:\n%+v\nwant:\n%+v", what, got, want)
	}
}

// queue lets pods wait that are all taken.
func queue(t *testing.T, b *Berth, pods ...api.Pod) {
	t.Helper()
	for _, p := range pods {
		want(t, "Queue of "+p.Name, b.Queue(p), api.OK)
	}
}

func wantWaiting(t *testing.T, what string, b *Berth, n int) {
	t.Helper()
	if got := b.State().Waiting; got != n {
		t.Errorf("%s: %d wait, want %d", what, got, n)
	}
}
