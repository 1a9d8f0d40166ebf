package api

import "testing"

func TestErrorsAreNumberedInOrder(t *testing.T) {
	for i, e := range []Errno{OK, ErrConfig, ErrNode, ErrPod, ErrNone, ErrTwice, ErrFull, ErrState, ErrTime, ErrFit} {
		if int(e) != i {
			t.Errorf("error %d of the document is %d", i, int(e))
		}
	}
}

func TestReasonsAreNumberedInOrder(t *testing.T) {
	for i, r := range []int{Amount, Port, Select, Taint, Near, Apart} {
		if r != i+1 {
			t.Errorf("reason %d of the document is %d", i+1, r)
		}
	}
}

func TestLimits(t *testing.T) {
	got := []int{MaxNodes, MaxPods, MaxLabels, MaxName, MaxAmount, MaxHold, MaxTick, MaxTime, MaxPort}
	want := []int{32, 128, 8, 20, 1099511627776, 1000, 100000, 1099511627776, 65535}
	for i := range want {
		if got[i] != want[i] {
			t.Errorf("limit %d is %d, want %d", i, got[i], want[i])
		}
	}
}

func TestErrnoIsAnError(t *testing.T) {
	var e error = ErrFit
	if e.Error() != "error 9" {
		t.Errorf("%q", e.Error())
	}
}
