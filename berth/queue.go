package berth

import "berth/api"

// Queue lets a pod wait (P7).
func (b *Berth) Queue(p api.Pod) api.Errno {
	if e := Check(p); e != api.OK {
		return e
	}
	select {
	case b.waiting <- copiedPod(p):
		return api.OK
	default: // the channel has room for all that may wait, and no more
		return api.ErrFull
	}
}

// Drain schedules what waits (P7).
func (b *Berth) Drain(n int) []api.Reply {
	replies := make([]api.Reply, 0, max(0, min(n, len(b.waiting))))
	for len(replies) < n {
		select {
		case p := <-b.waiting:
			replies = append(replies, b.Schedule(p))
		default:
			return replies
		}
	}
	return replies
}

// copiedPod makes a pod of the program's own: all five lists count once it is scheduled, and the caller may write into theirs until then.
func copiedPod(p api.Pod) api.Pod {
	p.Labels = copied(p.Labels)
	p.Select = copied(p.Select)
	p.Bears = copied(p.Bears)
	p.Near = copied(p.Near)
	p.Apart = copied(p.Apart)
	return p
}
