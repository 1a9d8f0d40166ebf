package berth

import (
	"reflect"
	"slices"
	"testing"

	"berth/api"
)

// labels makes a list from key, value, key, value.
func labels(s ...string) []api.Label {
	var out []api.Label
	for i := 0; i+1 < len(s); i += 2 {
		out = append(out, api.Label{Key: s[i], Value: s[i+1]})
	}
	return out
}

// keys makes a list of n labels with keys of their own.
func keys(n int) []api.Label {
	var out []api.Label
	for i := range n {
		out = append(out, api.Label{Key: string(rune('a' + i)), Value: "v"})
	}
	return out
}

func made(t *testing.T, hold int) *Berth {
	t.Helper()
	b, e := New(api.Config{Hold: hold})
	if b == nil || e != api.OK {
		t.Fatalf("New with Hold %d: %v, %v", hold, b, e)
	}
	return b
}

func want(t *testing.T, what string, got, want api.Errno) {
	t.Helper()
	if got != want {
		t.Errorf("%s: %d, want %d", what, int(got), int(want))
	}
}

// wantState holds two states against each other; nil is as good as an empty list.
func wantState(t *testing.T, b *Berth, want api.State) {
	t.Helper()
	if got := b.State(); !sameState(got, want) {
		t.Errorf("state:\n%+v\nwant:\n%+v", got, want)
	}
}

func sameState(a, b api.State) bool {
	return a.Time == b.Time && a.Waiting == b.Waiting && slices.Equal(a.Nodes, b.Nodes) && slices.Equal(a.Pods, b.Pods)
}

// wantSame holds all that two Berths keep against each other, not only what State tells.
func wantSame(t *testing.T, what string, got, want *Berth) {
	t.Helper()
	if !reflect.DeepEqual(got, want) {
		t.Errorf("%s: kept:\n%+v\nwant:\n%+v", what, got, want)
	}
}

// hold lays a pod as one that is scheduled now.
func hold(b *Berth, p api.Pod, node string) {
	b.lay(p, node, held, b.time)
}
