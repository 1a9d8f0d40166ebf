package berth

import (
	"fmt"
	"testing"

	"berth/api"
)

// crowd is a Berth with one node against which every reason can be had.
func crowd(t *testing.T, c api.Config) *Berth {
	b := madeBy(t, c)
	b.PutNode(api.Node{Name: "n", Room: api.Amounts{5, 0, 4}, Labels: labels("disk", "fast", "size", "big"), Taints: labels("load", "heavy", "use", "rare")})
	b.Bind(api.Pod{Name: "q", Need: api.Amounts{9, 0, 1}, Port: 80, Labels: labels("app", "web", "rank", "one"), Apart: labels("app", "db", "rank", "two")}, "n")
	return b
}

func TestP6Reasons(t *testing.T) {
	bears := labels("use", "rare", "load", "heavy")
	for what, c := range map[string]struct {
		p   api.Pod
		why int
	}{
		"more than is left":               {api.Pod{Need: api.Amounts{0, 0, 4}, Bears: bears}, 1},
		"as much as is left":              {api.Pod{Need: api.Amounts{0, 0, 3}, Bears: bears}, 0},
		"less than nothing left":          {api.Pod{Need: api.Amounts{1, 0, 0}, Bears: bears}, 1},
		"no room at all":                  {api.Pod{Need: api.Amounts{0, 1, 0}, Bears: bears}, 1},
		"nothing needed":                  {api.Pod{Bears: bears}, 0},
		"the greatest need":               {api.Pod{Need: api.Amounts{0, 0, api.MaxAmount}, Bears: bears}, 1},
		"the same port":                   {api.Pod{Port: 80, Bears: bears}, 2},
		"another port":                    {api.Pod{Port: 8080, Bears: bears}, 0},
		"one label to select by":          {api.Pod{Select: labels("disk", "fast"), Bears: bears}, 0},
		"two labels to select by":         {api.Pod{Select: labels("size", "big", "disk", "fast"), Bears: bears}, 0},
		"one of two labels":               {api.Pod{Select: labels("size", "big", "disk", "slow"), Bears: bears}, 3},
		"a key that is not there":         {api.Pod{Select: labels("colour", "red"), Bears: bears}, 3},
		"a taint to select by":            {api.Pod{Select: labels("load", "heavy"), Bears: bears}, 3},
		"no taint borne":                  {api.Pod{}, 4},
		"one of two taints borne":         {api.Pod{Bears: labels("load", "heavy")}, 4},
		"another value borne":             {api.Pod{Bears: labels("load", "heavy", "use", "often")}, 4},
		"more borne than there is":        {api.Pod{Bears: append(labels("more", "less"), bears...)}, 0},
		"near to nobody":                  {api.Pod{Near: labels("app", "db"), Bears: bears}, 5},
		"near to one":                     {api.Pod{Near: labels("app", "web"), Bears: bears}, 0},
		"near to one by two labels":       {api.Pod{Near: labels("rank", "one", "app", "web"), Bears: bears}, 0},
		"near to one by one of two":       {api.Pod{Near: labels("app", "web", "rank", "two"), Bears: bears}, 5},
		"near to itself alone":            {api.Pod{Labels: labels("app", "db"), Near: labels("app", "db"), Bears: bears}, 5},
		"near by a label of the node":     {api.Pod{Near: labels("disk", "fast"), Bears: bears}, 5},
		"apart from one":                  {api.Pod{Apart: labels("app", "web"), Bears: bears}, 6},
		"apart from one by two labels":    {api.Pod{Apart: labels("rank", "one", "app", "web"), Bears: bears}, 6},
		"apart by one of two":             {api.Pod{Apart: labels("rank", "two", "app", "web"), Bears: bears}, 0},
		"apart from itself alone":         {api.Pod{Labels: labels("app", "db"), Apart: labels("app", "db"), Bears: bears}, 0},
		"one there is apart from it":      {api.Pod{Labels: labels("more", "less", "rank", "two", "app", "db"), Bears: bears}, 6},
		"one there, by one label of two":  {api.Pod{Labels: labels("app", "db"), Bears: bears}, 0},
		"apart from each other":           {api.Pod{Labels: labels("rank", "two", "app", "db"), Apart: labels("app", "web"), Bears: bears}, 6},
		"amount ahead of all the others":  {api.Pod{Need: api.Amounts{1, 0, 0}, Port: 80, Select: labels("a", "b"), Near: labels("a", "b"), Apart: labels("app", "web")}, 1},
		"port ahead of those behind it":   {api.Pod{Port: 80, Select: labels("a", "b"), Near: labels("a", "b"), Apart: labels("app", "web")}, 2},
		"select ahead of those behind it": {api.Pod{Select: labels("a", "b"), Near: labels("a", "b"), Apart: labels("app", "web")}, 3},
		"taint ahead of those behind it":  {api.Pod{Near: labels("a", "b"), Apart: labels("app", "web")}, 4},
		"near ahead of apart":             {api.Pod{Near: labels("a", "b"), Apart: labels("app", "web"), Bears: bears}, 5},
		"near and apart from the same":    {api.Pod{Near: labels("app", "web"), Apart: labels("app", "web"), Bears: bears}, 6},
		"near, and one is apart from it":  {api.Pod{Near: labels("app", "web"), Labels: labels("app", "db", "rank", "two"), Bears: bears}, 6},
	} {
		c.p.Name = "p"
		for _, conf := range settings(5) {
			b := crowd(t, conf)
			for range 2 {
				r := b.Schedule(c.p)
				if c.why == 0 && (r.Err != api.OK || r.Node != "n" || r.Reasons != nil) {
					t.Errorf("%s: %+v, want it to be taken", what, r)
				}
				if c.why != 0 && (r.Node != "" || fmt.Sprint(r.Err, r.Reasons) != fmt.Sprint(api.ErrFit, []api.Reason{{Node: "n", Why: c.why}})) {
					t.Errorf("%s: %+v, want the reason %d", what, r, c.why)
				}
				b.Drop("p")
			}
		}
	}
}

func TestP6AmountsOfWhichNothingIsNeeded(t *testing.T) {
	b := made(t, 5)
	b.PutNode(api.Node{Name: "n", Room: api.Amounts{10, 10, 10}})
	b.Bind(api.Pod{Name: "q", Need: api.Amounts{11, 0, 0}}, "n")
	wantReply(t, b, api.Pod{Name: "p", Need: api.Amounts{0, 10, 1}}, api.Reply{Node: "n", Score: 0 + 0 + 90, Fresh: 1})
	wantReply(t, b, api.Pod{Name: "r", Need: api.Amounts{0, 1, 0}}, unfit(1, "n1"))
	wantReply(t, b, api.Pod{Name: "r", Need: api.Amounts{1, 0, 0}}, unfit(0, "n1"))
}

func TestP6HeldAndBoundPodsCountAlike(t *testing.T) {
	for _, c := range settings(5) {
		b := madeBy(t, c)
		b.PutNode(api.Node{Name: "n", Room: api.Amounts{2, 2, 2}})
		p := api.Pod{Name: "p", Need: api.Amounts{2, 0, 0}, Port: 65535, Labels: labels("app", "web")}
		wantReply(t, b, p, api.Reply{Node: "n", Score: 200, Fresh: 1})
		for i := range 2 {
			wantReply(t, b, api.Pod{Name: "q", Need: api.Amounts{1, 0, 0}}, unfit(1-i, "n1"))
			wantReply(t, b, api.Pod{Name: "q", Port: 65535}, unfit(0, "n2"))
			wantReply(t, b, api.Pod{Name: "q", Apart: labels("app", "web")}, unfit(0, "n6"))
			b.Confirm("p")
		}
		wantReply(t, b, api.Pod{Name: "q", Near: labels("app", "web")}, api.Reply{Node: "n", Score: 200})
	}
}

func TestP6PortsCountOnTheNodeAlone(t *testing.T) {
	b := made(t, 5)
	b.PutNode(api.Node{Name: "a", Labels: labels("zone", "x")})
	b.PutNode(api.Node{Name: "b", Labels: labels("zone", "x")})
	wantReply(t, b, api.Pod{Name: "p", Port: 1}, api.Reply{Node: "a", Fresh: 2})
	wantReply(t, b, api.Pod{Name: "q", Port: 1}, api.Reply{Node: "b", Fresh: 1})
	wantReply(t, b, api.Pod{Name: "r", Port: 1}, unfit(1, "a2", "b2"))
	wantReply(t, b, api.Pod{Name: "r"}, api.Reply{Node: "a"})
	wantReply(t, b, api.Pod{Name: "s"}, api.Reply{Node: "a", Fresh: 1})
}

// zones is a Berth with two nodes in the zone x, one in y, and two without one; a pod lies on one of x, and on one of those without.
func zones(t *testing.T, c api.Config) *Berth {
	b := madeBy(t, c)
	b.PutNode(api.Node{Name: "x1", Labels: labels("disk", "fast", "zone", "x")})
	b.PutNode(api.Node{Name: "x2", Labels: labels("zone", "x")})
	b.PutNode(api.Node{Name: "y1", Labels: labels("zone", "y")})
	b.PutNode(api.Node{Name: "none1"})
	b.PutNode(api.Node{Name: "none2"})
	b.Bind(api.Pod{Name: "web", Labels: labels("app", "web"), Apart: labels("app", "foe")}, "x2")
	b.Bind(api.Pod{Name: "db", Labels: labels("app", "db"), Apart: labels("app", "rival")}, "none1")
	return b
}

// why asks for the reasons against a pod that no node takes.
func why(b *Berth, p api.Pod) map[string]int {
	out := map[string]int{}
	p.Name = "asking"
	for _, r := range b.Schedule(p).Reasons {
		out[r.Node] = r.Why
	}
	return out
}

func wantWhy(t *testing.T, what string, b *Berth, p api.Pod, want map[string]int) {
	t.Helper()
	for range 2 {
		if got := why(b, p); fmt.Sprint(got) != fmt.Sprint(want) {
			t.Errorf("%s: %v, want %v", what, got, want)
		}
	}
}

// nearTo is a pod that no node takes: it would be near to what it is apart from.
func nearTo(app string) api.Pod {
	return api.Pod{Near: labels("app", app), Apart: labels("app", app)}
}

func TestP6NearAndApartLookAtNeighbours(t *testing.T) {
	for _, c := range settings(5) {
		b := zones(t, c)
		wantWhy(t, "near and apart from web", b, nearTo("web"), map[string]int{"x1": 6, "x2": 6, "y1": 5, "none1": 5, "none2": 5})
		wantWhy(t, "near and apart from db", b, nearTo("db"), map[string]int{"x1": 5, "x2": 5, "y1": 5, "none1": 6, "none2": 5})
		foe := api.Pod{Near: labels("app", "web"), Labels: labels("app", "foe")}
		wantWhy(t, "web is apart from it", b, foe, map[string]int{"x1": 6, "x2": 6, "y1": 5, "none1": 5, "none2": 5})
		rival := api.Pod{Near: labels("app", "db"), Labels: labels("app", "rival")}
		wantWhy(t, "db is apart from it", b, rival, map[string]int{"x1": 5, "x2": 5, "y1": 5, "none1": 6, "none2": 5})
		wantReply(t, b, api.Pod{Name: "p", Near: labels("app", "web")}, api.Reply{Node: "x1"})
		wantReply(t, b, api.Pod{Name: "q", Apart: labels("app", "web")}, api.Reply{Node: "none1", Fresh: 1})
		wantReply(t, b, api.Pod{Name: "r", Labels: labels("app", "rival"), Apart: labels("app", "web")}, api.Reply{Node: "none2", Fresh: 1})
	}
}

func TestP6AZoneThatChangesUnderThePods(t *testing.T) {
	for _, c := range settings(5) {
		b := zones(t, c)
		web, foe := nearTo("web"), api.Pod{Near: labels("app", "web"), Labels: labels("app", "foe")}
		both := func(what string, want map[string]int) {
			t.Helper()
			wantWhy(t, what+": apart from web", b, web, want)
			wantWhy(t, what+": web is apart from it", b, foe, want)
		}
		both("as it was", map[string]int{"x1": 6, "x2": 6, "y1": 5, "none1": 5, "none2": 5})
		b.PutNode(api.Node{Name: "x2", Labels: labels("zone", "y")})
		both("the node goes to y", map[string]int{"x1": 5, "x2": 6, "y1": 6, "none1": 5, "none2": 5})
		b.PutNode(api.Node{Name: "x1", Labels: labels("zone", "y")})
		both("another follows", map[string]int{"x1": 6, "x2": 6, "y1": 6, "none1": 5, "none2": 5})
		b.PutNode(api.Node{Name: "x2", Taints: labels("zone", "y"), Labels: labels("y", "zone")})
		both("the node loses its zone", map[string]int{"x1": 5, "x2": 4, "y1": 5, "none1": 5, "none2": 5})
		b.PutNode(api.Node{Name: "x2"})
		both("the node loses its taint", map[string]int{"x1": 5, "x2": 6, "y1": 5, "none1": 5, "none2": 5})
		b.PutNode(api.Node{Name: "x2", Labels: labels("zone", "z")})
		b.PutNode(api.Node{Name: "new", Labels: labels("zone", "z")})
		both("one more beside it", map[string]int{"new": 6, "x1": 5, "x2": 6, "y1": 5, "none1": 5, "none2": 5})
		b.DropNode("x2")
		both("the node goes, and what lies on it", map[string]int{"new": 5, "x1": 5, "y1": 5, "none1": 5, "none2": 5})
		b.PutNode(api.Node{Name: "x2", Labels: labels("zone", "z")})
		both("the node comes again, without it", map[string]int{"new": 5, "x2": 5, "x1": 5, "y1": 5, "none1": 5, "none2": 5})
	}
}

func TestP6PodsThatComeAndGoBesideANode(t *testing.T) {
	for _, c := range settings(5) {
		b := zones(t, c)
		cache := api.Pod{Name: "cache", Labels: labels("app", "cache"), Near: labels("app", "web"), Select: labels("disk", "fast")}
		ask := nearTo("cache")
		none := map[string]int{"x1": 5, "x2": 5, "y1": 5, "none1": 5, "none2": 5}
		some := map[string]int{"x1": 6, "x2": 6, "y1": 5, "none1": 5, "none2": 5}
		wantWhy(t, "ahead of it", b, ask, none)
		wantReply(t, b, cache, api.Reply{Node: "x1"})
		wantWhy(t, "scheduled", b, ask, some)
		b.Drop("cache")
		wantWhy(t, "dropped", b, ask, none)
		b.Bind(cache, "x1")
		wantWhy(t, "bound", b, ask, some)
		b.Drop("cache")
		wantReply(t, b, cache, api.Reply{Node: "x1", Fresh: 1})
		b.Tick(4)
		wantWhy(t, "held", b, ask, some)
		b.Tick(1)
		wantWhy(t, "timed out", b, ask, none)
		b.Bind(cache, "none1")
		wantWhy(t, "bound elsewhere", b, ask, map[string]int{"x1": 5, "x2": 5, "y1": 5, "none1": 6, "none2": 5})
	}
}

func TestP6Score(t *testing.T) {
	const most = api.MaxAmount
	for what, c := range map[string]struct {
		room, used, need api.Amounts
		score            int
	}{
		"no room":                {api.Amounts{}, api.Amounts{}, api.Amounts{}, 0},
		"all left":               {api.Amounts{1, 2, most}, api.Amounts{}, api.Amounts{}, 300},
		"nothing left":           {api.Amounts{1, 2, most}, api.Amounts{0, 1, most - 1}, api.Amounts{1, 1, 1}, 0},
		"rounded down":           {api.Amounts{3, 3, 7}, api.Amounts{}, api.Amounts{1, 2, 4}, 66 + 33 + 42},
		"less than a hundredth":  {api.Amounts{101, 201, most}, api.Amounts{100, 199, 0}, api.Amounts{0, 0, most - 1}, 0},
		"just short of all":      {api.Amounts{most, 0, 0}, api.Amounts{}, api.Amounts{1, 0, 0}, 99},
		"rounded each by itself": {api.Amounts{3, 3, 3}, api.Amounts{}, api.Amounts{2, 2, 2}, 99},
		"used without room":      {api.Amounts{0, 10, 0}, api.Amounts{5, 0, most}, api.Amounts{0, 5, 0}, 50},
		"more used than room":    {api.Amounts{10, 10, 10}, api.Amounts{11, 9, most}, api.Amounts{}, 10},
		"half of the greatest":   {api.Amounts{most, most, most}, api.Amounts{most / 2, 0, most}, api.Amounts{0, most / 2, 0}, 100},
	} {
		b := made(t, 5)
		b.PutNode(api.Node{Name: "n", Room: c.room})
		b.Bind(api.Pod{Name: "q", Need: c.used}, "n")
		r := b.Schedule(api.Pod{Name: "p", Need: c.need})
		if !sameReply(r, api.Reply{Node: "n", Score: c.score, Fresh: 1}) {
			t.Errorf("%s: %+v, want the score %d", what, r, c.score)
		}
	}
}

func TestP6TheGreatestAmounts(t *testing.T) {
	b := made(t, 5)
	const most = api.MaxAmount
	b.PutNode(api.Node{Name: "a", Room: api.Amounts{most, most, most}})
	b.PutNode(api.Node{Name: "b", Room: api.Amounts{most, most, most}})
	for i := range api.MaxPods - 2 {
		b.Bind(api.Pod{Name: fmt.Sprint("p", i), Need: api.Amounts{most, most, 0}}, "a")
	}
	wantReply(t, b, api.Pod{Name: "p", Need: api.Amounts{0, 0, most}}, api.Reply{Node: "b", Score: 200, Fresh: 2})
	wantReply(t, b, api.Pod{Name: "q", Need: api.Amounts{0, 0, most}}, api.Reply{Node: "a", Score: 0, Fresh: 1})
	b.Drop("p0")
	wantReply(t, b, api.Pod{Name: "r", Need: api.Amounts{most, most, 1}}, unfit(1, "a1", "b1"))
	wantReply(t, b, api.Pod{Name: "r", Need: api.Amounts{most, most, 0}}, api.Reply{Node: "b", Score: 0})
}
