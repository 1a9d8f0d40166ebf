// Package berth: which machine takes which load: see DOC.md.
package berth

import "berth/api"

// Berth knows nodes and pods.
type Berth struct {
	hold            int
	remember, whole bool
	time            int
	nodes           map[string]node
	pods            map[string]*pod
	memory          memory
}

// New makes a Berth (P3).
func New(c api.Config) (*Berth, api.Errno) {
	if c.Hold < 1 || c.Hold > api.MaxHold {
		return nil, api.ErrConfig
	}
	return &Berth{
		hold:     c.Hold,
		remember: c.Remember,
		whole:    c.Whole,
		nodes:    map[string]node{},
		pods:     map[string]*pod{},
		memory:   newMemory(),
	}, api.OK
}

// Queue lets a pod wait (P7).
func (b *Berth) Queue(p api.Pod) api.Errno { return api.OK }

// Drain schedules what waits (P7).
func (b *Berth) Drain(n int) []api.Reply { return nil }
