package berth

import (
	"fmt"
	"math"
	"slices"
	"strings"
	"testing"

	"berth/api"
)

// names are texts, and whether each is a name.
func names() map[string]bool {
	out := map[string]bool{
		"":                         false,
		strings.Repeat("z", 1):     true,
		strings.Repeat("z", 19):    true,
		strings.Repeat("z", 20):    true,
		strings.Repeat("z", 21):    false,
		strings.Repeat("z", 1<<20): false,
		"-":                        true,
		"--":                       true,
		"0":                        true,
		"é":                        false,
		"a b":                      false,
		"a\x00":                    false,
		"ａ":                        false,
	}
	for c := range 256 {
		ok := strings.IndexByte("abcdefghijklmnopqrstuvwxyz0123456789-", byte(c)) >= 0
		s := string([]byte{byte(c)})
		out[s], out[s+"a"], out["a"+s+"a"], out["a"+s] = ok, ok, ok, ok
		out[strings.Repeat("z", 19)+s] = ok
	}
	return out
}

// lists are lists, and whether each is a list of labels.
func lists() []struct {
	l  []api.Label
	ok bool
} {
	type row = struct {
		l  []api.Label
		ok bool
	}
	out := []row{
		{nil, true},
		{[]api.Label{}, true},
		{keys(1), true},
		{keys(api.MaxLabels), true},
		{keys(api.MaxLabels + 1), false},
		{make([]api.Label, 100000), false},
		{labels("a", "b", "a", "b"), false},
		{labels("a", "b", "a", "c"), false},
		{labels("a", "b", "c", "b"), true},
		{labels("a", "b", "b", "a"), true},
		{labels("a", "b", "c", "d", "a", "e"), false},
		{append(keys(api.MaxLabels-1), api.Label{Key: "a", Value: "w"}), false},
		{append(keys(api.MaxLabels-1), api.Label{Key: "x", Value: ""}), false},
	}
	for s, ok := range names() {
		out = append(out, row{labels(s, "v"), ok}, row{labels("k", s), ok}, row{labels("k", "v", s, "w"), ok && s != "k"})
	}
	return out
}

// amounts are numbers, and whether each is an amount.
var amounts = map[int]bool{
	0: true, 1: true, api.MaxAmount - 1: true, api.MaxAmount: true, api.MaxAmount + 1: false,
	-1: false, -api.MaxAmount: false, math.MaxInt: false, math.MinInt: false,
}

func podErr(ok bool) api.Errno {
	if ok {
		return api.OK
	}
	return api.ErrPod
}

func nodeErr(ok bool) api.Errno {
	if ok {
		return api.OK
	}
	return api.ErrNode
}

func TestP2NamesOfPodsAndNodes(t *testing.T) {
	for s, ok := range names() {
		want(t, fmt.Sprintf("Check of the name %.30q", s), Check(api.Pod{Name: s}), podErr(ok))
		want(t, fmt.Sprintf("CheckNode of the name %.30q", s), CheckNode(api.Node{Name: s}), nodeErr(ok))
	}
}

func TestP2Amounts(t *testing.T) {
	for n, ok := range amounts {
		for i := range 3 {
			var a api.Amounts
			a[i] = n
			want(t, fmt.Sprint("Check of Need ", a), Check(api.Pod{Name: "p", Need: a}), podErr(ok))
			want(t, fmt.Sprint("CheckNode of Room ", a), CheckNode(api.Node{Name: "n", Room: a}), nodeErr(ok))
		}
	}
	most := api.Amounts{api.MaxAmount, api.MaxAmount, api.MaxAmount}
	want(t, "Check of the most of all", Check(api.Pod{Name: "p", Need: most}), api.OK)
	want(t, "CheckNode of the most of all", CheckNode(api.Node{Name: "n", Room: most}), api.OK)
}

func TestP2Ports(t *testing.T) {
	for n, ok := range map[int]bool{0: true, 1: true, 65535: true, 65536: false, -1: false, math.MaxInt: false, math.MinInt: false} {
		want(t, fmt.Sprint("Check of Port ", n), Check(api.Pod{Name: "p", Port: n}), podErr(ok))
	}
}

func TestP2Lists(t *testing.T) {
	for _, c := range lists() {
		shown := c.l[:min(len(c.l), 10)]
		for i, p := range []api.Pod{{Labels: c.l}, {Select: c.l}, {Bears: c.l}, {Near: c.l}, {Apart: c.l}} {
			p.Name = "p"
			want(t, fmt.Sprintf("Check of list %d, %.200q", i, shown), Check(p), podErr(c.ok))
		}
		for i, n := range []api.Node{{Labels: c.l}, {Taints: c.l}} {
			n.Name = "n"
			want(t, fmt.Sprintf("CheckNode of list %d, %.200q", i, shown), CheckNode(n), nodeErr(c.ok))
		}
	}
}

func TestP2TwoListsMayHaveOneKey(t *testing.T) {
	l := keys(api.MaxLabels)
	want(t, "Check", Check(api.Pod{Name: "p", Labels: l, Select: l, Bears: l, Near: l, Apart: l}), api.OK)
	want(t, "CheckNode", CheckNode(api.Node{Name: "n", Labels: l, Taints: l}), api.OK)
}

func TestP2Fits(t *testing.T) {
	long := make([]api.Label, 1000)
	for i := range long {
		long[i] = api.Label{Key: fmt.Sprint("k", i), Value: "v"}
	}
	turned := slices.Clone(long)
	slices.Reverse(turned)
	for _, c := range []struct {
		l, labels []api.Label
		want      bool
	}{
		{nil, nil, true},
		{nil, []api.Label{}, true},
		{[]api.Label{}, labels("a", "b"), true},
		{labels("a", "b"), nil, false},
		{labels("a", "b"), labels("a", "b"), true},
		{labels("a", "b"), labels("a", "c"), false},
		{labels("a", "b"), labels("c", "b"), false},
		{labels("a", "b"), labels("b", "a"), false},
		{labels("a", "bc"), labels("ab", "c"), false},
		{labels("a", "b"), labels("c", "d", "a", "b"), true},
		{labels("a", "b", "c", "d"), labels("c", "d", "a", "b"), true},
		{labels("a", "b", "c", "d"), labels("a", "b"), false},
		{labels("a", "b", "c", "d"), labels("c", "d"), false},
		{labels("a", "b", "a", "b"), labels("a", "b"), true},
		{labels("a", "b"), labels("a", "c", "a", "b"), true},
		{labels("a", "b", "a", "c"), labels("a", "b"), false},
		{labels("", ""), labels("", ""), true},
		{labels("", ""), nil, false},
		{labels("A B", "\xff"), labels("A B", "\xff"), true},
		{labels("A", "b"), labels("a", "b"), false},
		{long, turned, true},
		{long, turned[1:], false},
	} {
		if got := Fits(c.l, c.labels); got != c.want {
			t.Errorf("Fits(%.200q, %.200q) = %v", c.l, c.labels, got)
		}
	}
}
