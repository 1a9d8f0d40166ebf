package berth

import (
	"math"
	"testing"

	"berth/api"
)

func TestP3Hold(t *testing.T) {
	for hold, e := range map[int]api.Errno{
		0: api.ErrConfig, -1: api.ErrConfig, 1: api.OK, 2: api.OK, 1000: api.OK, 1001: api.ErrConfig,
		math.MaxInt: api.ErrConfig, math.MinInt: api.ErrConfig,
	} {
		for _, c := range []api.Config{{Hold: hold}, {Hold: hold, Remember: true}, {Hold: hold, Whole: true}, {Hold: hold, Remember: true, Whole: true}} {
			b, got := New(c)
			want(t, "New", got, e)
			if (b == nil) != (e != api.OK) {
				t.Errorf("New(%+v): a Berth: %v", c, b != nil)
			}
			if b != nil {
				wantState(t, b, api.State{})
			}
		}
	}
}

func TestP3BerthsAreApart(t *testing.T) {
	b, other := made(t, 5), made(t, 5)
	want(t, "PutNode", b.PutNode(api.Node{Name: "a"}), api.OK)
	want(t, "Bind", b.Bind(api.Pod{Name: "p"}, "a"), api.OK)
	want(t, "Tick", b.Tick(3), api.OK)
	wantState(t, other, api.State{})
	want(t, "Drop in the other", other.Drop("p"), api.ErrNone)
}
