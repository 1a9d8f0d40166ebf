package berth

import (
	"fmt"
	"math"
	"slices"
	"testing"

	"berth/api"
)

// crowded is a Berth in which all wait that may, under names of their own, and none is there.
func crowded(t *testing.T, c api.Config) *Berth {
	t.Helper()
	b := document(t, c)
	for i := range api.MaxPods {
		queue(t, b, api.Pod{Name: fmt.Sprint("w", i), Port: i})
	}
	return b
}

// mixed are pods with each kind of reply among them: on the document's nodes each comes to lie elsewhere if the order is another.
func mixed() []api.Pod {
	heavy, web := labels("load", "heavy"), labels("app", "web")
	return []api.Pod{
		{Name: "p1", Need: api.Amounts{5, 5, 0}},
		{Name: "p2", Need: api.Amounts{5, 5, 0}},
		{Name: "p1", Need: api.Amounts{1, 0, 0}},
		{Name: "p3", Need: api.Amounts{0, 0, 1}, Bears: heavy},
		{Name: "p4", Need: api.Amounts{0, 6, 0}, Select: labels("disk", "fast")},
		{Name: "p5", Labels: web, Apart: web},
		{Name: "p6", Labels: web, Apart: web},
		{Name: "p6", Labels: web, Apart: web, Bears: heavy},
		{Name: "p7", Need: api.Amounts{5, 0, 0}, Port: 80},
		{Name: "p8", Near: web, Port: 80},
		{Name: "p6", Port: 80},
	}
}

// mixedReplies are those of mixed on the document's nodes, worked out by hand.
func mixedReplies() []api.Reply {
	return []api.Reply{
		{Node: "b", Score: 75 + 50, Fresh: 3},
		{Node: "a", Score: 50 + 50, Fresh: 1},
		{Err: api.ErrTwice},
		{Node: "c", Score: 100 + 100 + 80, Fresh: 1},
		unfit(1, "a1", "b1", "c3"),
		{Node: "b", Score: 75 + 50},
		unfit(1, "a6", "b6", "c4"),
		{Node: "c", Score: 100 + 100 + 80},
		{Node: "b", Score: 50 + 50, Fresh: 1},
		{Node: "a", Score: 50 + 50, Fresh: 1},
		{Err: api.ErrTwice},
	}
}

func TestP7QueueOfNoPod(t *testing.T) {
	b, other := document(t, api.Config{Hold: 5}), document(t, api.Config{Hold: 5})
	for what, p := range map[string]api.Pod{
		"without a name":       {},
		"a great letter":       {Name: "P"},
		"a long name":          {Name: "aaaaaaaaaaaaaaaaaaaaa"},
		"less than no need":    {Name: "p", Need: api.Amounts{0, -1, 0}},
		"too great a need":     {Name: "p", Need: api.Amounts{0, 0, api.MaxAmount + 1}},
		"less than no port":    {Name: "p", Port: -1},
		"too great a port":     {Name: "p", Port: api.MaxPort + 1},
		"too many labels":      {Name: "p", Labels: keys(9)},
		"too many to select":   {Name: "p", Select: keys(9)},
		"a key twice":          {Name: "p", Bears: labels("a", "b", "a", "c")},
		"a label without key":  {Name: "p", Near: labels("", "b")},
		"a label without text": {Name: "p", Apart: labels("a", "")},
	} {
		want(t, "Queue of a pod with "+what, b.Queue(p), api.ErrPod)
		wantSame(t, "Queue of a pod with "+what, b, other)
	}
	queue(t, b, api.Pod{Name: "aaaaaaaaaaaaaaaaaaaa", Need: api.Amounts{api.MaxAmount, 0, api.MaxAmount}, Port: api.MaxPort, Labels: keys(8), Select: keys(8), Bears: keys(8), Near: keys(8), Apart: keys(8)})
	wantWaiting(t, "the greatest pod", b, 1)
}

func TestP7QueueErrorsInOrder(t *testing.T) {
	for _, c := range settings(5) {
		b, other := crowded(t, c), crowded(t, c)
		want(t, "no pod, full", b.Queue(api.Pod{Name: "w1", Port: -1}), api.ErrPod)
		want(t, "full", b.Queue(api.Pod{Name: "more"}), api.ErrFull)
		want(t, "full, of a name that waits", b.Queue(api.Pod{Name: "w1"}), api.ErrFull)
		wantSame(t, "after errors", b, other)
		wantWaiting(t, "after errors", b, api.MaxPods)
		b.Drain(0)
		want(t, "full after nothing was drained", b.Queue(api.Pod{Name: "more"}), api.ErrFull)
		wantReplies(t, "Drain", b.Drain(1), []api.Reply{{Node: "a", Score: 200, Fresh: 3}})
		want(t, "one more after one was drained", b.Queue(api.Pod{Name: "more"}), api.OK)
		want(t, "two more after one was drained", b.Queue(api.Pod{Name: "more"}), api.ErrFull)
		wantWaiting(t, "full again", b, api.MaxPods)
	}
}

func TestP7FullCountsWhatWaitsAlone(t *testing.T) {
	b := crowded(t, api.Config{Hold: 5})
	want(t, "Bind while all wait that may", b.Bind(api.Pod{Name: "q"}, "a"), api.OK)
	wantReply(t, b, api.Pod{Name: "p"}, api.Reply{Node: "a", Score: 200, Fresh: 3})
	for i := range api.MaxPods - 2 {
		want(t, "Bind", b.Bind(api.Pod{Name: fmt.Sprint("p", i)}, "b"), api.OK)
	}
	wantReplies(t, "Drain while all are there that may", b.Drain(3), []api.Reply{{Err: api.ErrFull}, {Err: api.ErrFull}, {Err: api.ErrFull}})
	wantWaiting(t, "what was refused is gone", b, api.MaxPods-3)
	want(t, "Queue while all are there that may", b.Queue(api.Pod{Name: "z"}), api.OK)
	b.Drop("q")
	r := b.Drain(math.MaxInt)
	if len(r) != api.MaxPods-2 || r[0].Err != api.OK || r[1].Err != api.ErrFull || r[api.MaxPods-3].Err != api.ErrFull {
		t.Errorf("Drain with room for one: %+v", r)
	}
	if p := b.pods["w3"]; p == nil || p.port != 3 {
		t.Errorf("the pod that had room: %+v", p)
	}
}

func TestP7TheSameNames(t *testing.T) {
	for _, c := range settings(5) {
		b := madeBy(t, c)
		b.PutNode(api.Node{Name: "n", Room: api.Amounts{10, 0, 0}})
		b.Bind(api.Pod{Name: "bound", Need: api.Amounts{1, 0, 0}}, "n")
		wantReply(t, b, api.Pod{Name: "held", Need: api.Amounts{1, 0, 0}}, api.Reply{Node: "n", Score: 80, Fresh: 1})
		for _, name := range []string{"bound", "new", "held", "new", "other", "new"} {
			queue(t, b, api.Pod{Name: name, Need: api.Amounts{1, 0, 0}})
		}
		wantReplies(t, "Drain", b.Drain(5), []api.Reply{
			{Err: api.ErrTwice}, {Node: "n", Score: 70, Fresh: 1}, {Err: api.ErrTwice}, {Err: api.ErrTwice}, {Node: "n", Score: 60, Fresh: 1},
		})
		b.Drop("new")
		wantReplies(t, "Drain after the first was dropped", b.Drain(5), []api.Reply{{Node: "n", Score: 60, Fresh: 1}})
	}
}

func TestP7HowManyAreDrained(t *testing.T) {
	for _, c := range settings(5) {
		for n, drained := range map[int]int{
			0: 0, -1: 0, -5: 0, math.MinInt: 0, math.MinInt32: 0,
			1: 1, 2: 2, 4: 4, 5: 5, 6: 5, 127: 5, 128: 5, 129: 5, 1 << 40: 5, math.MaxInt - 1: 5, math.MaxInt: 5,
		} {
			b := document(t, c)
			queue(t, b, mixed()[:5]...)
			wantReplies(t, fmt.Sprint("Drain ", n), b.Drain(n), mixedReplies()[:drained])
			wantWaiting(t, fmt.Sprint("Drain ", n), b, 5-drained)
			wantReplies(t, fmt.Sprint("Drain after ", n), b.Drain(math.MaxInt), mixedReplies()[drained:5])
			wantReplies(t, "Drain of none", b.Drain(n), nil)
			wantWaiting(t, "Drain of none", b, 0)
		}
	}
}

func TestP7AllThatMayWaitAreDrained(t *testing.T) {
	for _, c := range settings(5) {
		b := crowded(t, c)
		b.Drain(api.MaxPods - 1)
		wantWaiting(t, "all but one drained", b, 1)
		b.Drain(api.MaxPods)
		s := b.State()
		if s.Waiting != 0 || len(s.Pods) != api.MaxPods {
			t.Errorf("all drained: %+v", s)
		}
	}
}

func TestP7NothingDrainedChangesNothing(t *testing.T) {
	for _, c := range settings(5) {
		b, other := document(t, c), document(t, c)
		for _, n := range []int{0, -1, 1, math.MaxInt, math.MinInt} {
			wantReplies(t, "Drain of an empty Berth", b.Drain(n), nil)
			wantSame(t, "Drain of an empty Berth", b, other)
		}
		queue(t, b, mixed()...)
		queue(t, other, mixed()...)
		for _, n := range []int{0, -1, math.MinInt} {
			wantReplies(t, "Drain of none", b.Drain(n), nil)
			wantSame(t, "Drain of none", b, other)
		}
	}
}

// TestP7TheOrderOfWhatWaits lets far more wait than may at one time, in turns of several Queue and Drain calls.
func TestP7TheOrderOfWhatWaits(t *testing.T) {
	b := made(t, 5)
	b.PutNode(api.Node{Name: "n", Room: api.Amounts{api.MaxAmount, 0, 0}})
	in, out, refused := 0, 0, 0
	for turn := range 300 {
		for range turn % 13 {
			if b.Queue(api.Pod{Name: fmt.Sprint("p", in%251), Need: api.Amounts{in + 1, 0, 0}}) == api.OK {
				in++
			} else {
				refused++
			}
		}
		for range b.Drain(turn % 11) {
			name := fmt.Sprint("p", out%251)
			if p := b.pods[name]; p == nil || p.need[0] != out+1 {
				t.Fatalf("turn %d: %s is not what was drained: %+v", turn, name, p)
			}
			b.Drop(name)
			out++
		}
		if s := b.State(); len(s.Pods) > 0 || s.Waiting != in-out {
			t.Fatalf("turn %d: %+v, want %d to wait", turn, s, in-out)
		}
	}
	if out < 10*api.MaxPods || refused == 0 {
		t.Errorf("%d came, %d went, %d were refused: too few to tell", in, out, refused)
	}
}

// TestP7OneBehindTheOther: the first takes the room, whatever its name.
func TestP7OneBehindTheOther(t *testing.T) {
	for _, c := range settings(5) {
		for _, names := range [][]string{{"a", "b", "c"}, {"c", "b", "a"}, {"b", "c", "a"}} {
			b := madeBy(t, c)
			b.PutNode(api.Node{Name: "n", Room: api.Amounts{3, 0, 0}})
			for i, name := range names {
				queue(t, b, api.Pod{Name: name, Need: api.Amounts{3 - i, 0, 0}})
			}
			wantReplies(t, "Drain", b.Drain(3), []api.Reply{{Node: "n", Fresh: 1}, unfit(1, "n1"), unfit(0, "n1")})
			wantState(t, b, api.State{Nodes: []api.Use{{Name: "n", Used: api.Amounts{3, 0, 0}, Pods: 1}}, Pods: []api.Lies{{Name: names[0], Node: "n"}}})
		}
	}
}

func TestP7TheRepliesAreThoseOfSchedule(t *testing.T) {
	for _, c := range settings(5) {
		for _, pieces := range [][]int{{11}, {math.MaxInt}, {1, 1, 1, 1, 1, 1, 1, 1, 1, 1, 1}, {2, 0, 3, -1, 4, 100}, {7, 4}, {10, 2}} {
			b, other := document(t, c), document(t, c)
			queue(t, b, mixed()...)
			var got, want []api.Reply
			for _, n := range pieces {
				got = append(got, b.Drain(n)...)
			}
			for _, p := range mixed() {
				want = append(want, other.Schedule(p))
			}
			wantReplies(t, fmt.Sprint("Drain in pieces ", pieces), got, mixedReplies())
			wantReplies(t, "Schedule", want, mixedReplies())
			wantSame(t, fmt.Sprint("drained in pieces ", pieces), b, other)
		}
	}
}

// TestP7Fresh: to wait is no change of a node, and a pod that is refused is no look at them.
func TestP7Fresh(t *testing.T) {
	for _, c := range settings(5) {
		b := settled(t, c)
		queue(t, b, api.Pod{Name: "p"}, api.Pod{Name: "q"}, api.Pod{Name: "r", Select: labels("no", "such")}, api.Pod{Name: "r"})
		wantFresh(t, "queued", b, 0)
		b.Drain(0)
		b.PutNode(api.Node{Name: "d"})
		b.Drain(-1)
		wantReplies(t, "Drain 1", b.Drain(1), []api.Reply{{Node: "a", Score: 300, Fresh: 1}})
		wantReplies(t, "Drain 1, of a name that is there", b.Drain(1), []api.Reply{{Err: api.ErrTwice}})
		wantReplies(t, "Drain 2", b.Drain(2), []api.Reply{unfit(1, "a3", "b3", "c3", "d3"), {Node: "a", Score: 300}})
		wantFresh(t, "drained", b, 1)
		wantReplies(t, "Drain of none", b.Drain(2), nil)
		wantFresh(t, "drained in vain", b, 0)
	}
}

// TestP7ScheduledWhenItIsDrained: nodes, pods and time are those of the Drain, not of the Queue.
func TestP7ScheduledWhenItIsDrained(t *testing.T) {
	for _, c := range settings(5) {
		b := document(t, c)
		queue(t, b, api.Pod{Name: "p", Need: api.Amounts{8, 0, 0}}, api.Pod{Name: "q", Select: labels("zone", "x")})
		b.Tick(4)
		b.DropNode("b")
		b.Bind(api.Pod{Name: "r", Need: api.Amounts{5, 0, 0}}, "a")
		wantReplies(t, "Drain", b.Drain(1), []api.Reply{unfit(2, "a1", "c4")})
		b.Tick(100)
		wantReplies(t, "Drain", b.Drain(1), []api.Reply{{Node: "a", Score: 50 + 100}})
		b.Tick(4)
		wantState(t, b, api.State{
			Time:  108,
			Nodes: []api.Use{{Name: "a", Used: api.Amounts{5, 0, 0}, Pods: 2}, {Name: "c"}},
			Pods:  []api.Lies{{Name: "q", Node: "a", Since: 104}, {Name: "r", Node: "a", Bound: true}},
		})
		b.Tick(1)
		want(t, "Drop of what was held long enough", b.Drop("q"), api.ErrNone)
	}
}

func TestP7WhatWaitsIsNotThere(t *testing.T) {
	b := document(t, api.Config{Hold: 1})
	web := labels("app", "web")
	queue(t, b, api.Pod{Name: "p", Need: api.Amounts{0, 0, 5}, Port: 80, Labels: web, Apart: web})
	want(t, "Confirm of what waits", b.Confirm("p"), api.ErrNone)
	want(t, "Drop of what waits", b.Drop("p"), api.ErrNone)
	wantReply(t, b, api.Pod{Name: "q", Near: web}, unfit(3, "a5", "b5", "c4"))
	wantReply(t, b, api.Pod{Name: "p", Port: 80, Labels: web}, api.Reply{Node: "a", Score: 200})
	wantWaiting(t, "scheduled under the same name", b, 1)
	b.Drop("p")
	for _, name := range []string{"a", "b", "c"} {
		b.DropNode(name)
	}
	b.Tick(100)
	wantState(t, b, api.State{Time: 100, Waiting: 1})
	wantReplies(t, "Drain without nodes", b.Drain(1), []api.Reply{unfit(0)})
	wantState(t, b, api.State{Time: 100})
}

func TestP8HowManyWait(t *testing.T) {
	for _, c := range settings(5) {
		b := document(t, c)
		wantWaiting(t, "at first", b, 0)
		for i := range 2 * api.MaxPods {
			b.Queue(api.Pod{Name: "p"})
			wantWaiting(t, "after Queue", b, min(i+1, api.MaxPods))
		}
		for i := range 2 * api.MaxPods {
			b.Drain(1)
			wantWaiting(t, "after Drain", b, max(0, api.MaxPods-1-i))
		}
	}
}

// TestP7ListsOfWhatWaits writes into each list of its own, so that each alone would change the reply.
func TestP7ListsOfWhatWaits(t *testing.T) {
	for _, c := range settings(5) {
		b := madeBy(t, c)
		b.PutNode(api.Node{Name: "n", Labels: labels("k", "v"), Taints: labels("k", "v")})
		b.Bind(api.Pod{Name: "there", Labels: labels("k", "v"), Apart: labels("j", "x")}, "n")
		var lists [][]api.Label
		list := func(s ...string) []api.Label {
			l, all := roomy(labels(s...))
			lists = append(lists, all)
			return l
		}
		bears := labels("k", "v")
		queue(t, b,
			api.Pod{Name: "labels", Bears: bears, Labels: list("j", "x")},
			api.Pod{Name: "select", Bears: bears, Select: list("k", "v")},
			api.Pod{Name: "bears", Bears: list("k", "v")},
			api.Pod{Name: "near", Bears: bears, Near: list("k", "v")},
			api.Pod{Name: "apart", Bears: bears, Apart: list("k", "v")},
		)
		for _, l := range lists {
			for i := range l {
				l[i] = api.Label{Key: "written", Value: "later"}
			}
		}
		wantReplies(t, "Drain after the caller has written into the lists", b.Drain(9), []api.Reply{
			unfit(1, "n6"), {Node: "n"}, {Node: "n", Fresh: 1}, {Node: "n", Fresh: 1}, unfit(1, "n6"),
		})
	}
}

// TestP7RepliesAreNew writes into replies and reasons, up to the end of their spare room.
func TestP7RepliesAreNew(t *testing.T) {
	for _, c := range settings(5) {
		b, other := document(t, c), document(t, c)
		for range 3 {
			queue(t, b, mixed()...)
			queue(t, other, mixed()...)
			for _, n := range []int{3, 6, 5} {
				r := b.Drain(n)
				other.Drain(n)
				scribble(r)
				wantSame(t, "after the caller has written into the replies", b, other)
			}
			b.Tick(5)
			other.Tick(5)
		}
	}
}

func scribble(replies []api.Reply) {
	for _, r := range replies {
		for i := range r.Reasons[:cap(r.Reasons)] {
			r.Reasons[:cap(r.Reasons)][i] = api.Reason{Node: "written", Why: -1}
		}
	}
	all := replies[:cap(replies)]
	for i := range all {
		all[i] = api.Reply{Err: -1, Node: "written", Reasons: []api.Reason{{Node: "written"}}}
	}
}

// TestP7RepliesShareNothing writes into the reasons of one reply, and looks at those of the others and of another Drain.
func TestP7RepliesShareNothing(t *testing.T) {
	for _, c := range settings(5) {
		b := document(t, c)
		for range 6 {
			queue(t, b, api.Pod{Name: "p", Select: labels("no", "such")})
		}
		first, second := b.Drain(3), b.Drain(3)
		scribble(first[1:2:2])
		wantReplies(t, "beside the reply that was written into", slices.Delete(first, 1, 2), []api.Reply{unfit(3, "a3", "b3", "c3"), unfit(0, "a3", "b3", "c3")})
		wantReplies(t, "behind the reply that was written into", second, []api.Reply{unfit(0, "a3", "b3", "c3"), unfit(0, "a3", "b3", "c3"), unfit(0, "a3", "b3", "c3")})
	}
}

func TestP7BerthsAreApart(t *testing.T) {
	for _, c := range settings(5) {
		b, other := crowded(t, c), document(t, c)
		wantWaiting(t, "the other", other, 0)
		wantReplies(t, "Drain of the other", other.Drain(9), nil)
		queue(t, other, mixed()...)
		wantWaiting(t, "the one", b, api.MaxPods)
		b.Drain(math.MaxInt)
		wantWaiting(t, "the other, after the one was drained", other, len(mixed()))
		wantReplies(t, "Drain of the other", other.Drain(math.MaxInt), mixedReplies())
	}
}

// TestP7Examples are the document's, by way of the queue.
func TestP7Examples(t *testing.T) {
	for _, c := range settings(5) {
		b := document(t, c)
		queue(t, b, mixed()...)
		wantReplies(t, "Drain", b.Drain(len(mixed())), mixedReplies())
		want(t, "Tick", b.Tick(5), api.OK)
		wantState(t, b, api.State{Time: 5, Nodes: []api.Use{{Name: "a"}, {Name: "b"}, {Name: "c"}}})
	}
}
