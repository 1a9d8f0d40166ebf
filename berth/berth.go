// Package berth: which machine takes which load: see DOC.md.
package berth

import "berth/api"

// Berth knows nodes and pods.
type Berth struct {
	hold            int
	remember, whole bool
	time            int
	nodes           map[string]node
	pods            map[string]*pod
	memory          memory
	waiting         chan api.Pod
}

// New makes a Berth (P3).
func New(c api.Config) (*Berth, api.Errno) {
	if c.Hold < 1 || c.Hold > api.MaxHold {
		return nil, api.ErrConfig
	}
	return &Berth{
		hold:     c.Hold,
		remember: c.Remember,
		whole:    c.Whole,
		nodes:    map[string]node{},
		pods:     map[string]*pod{},
		memory:   newMemory(),
		waiting:  make(chan api.Pod, api.MaxPods),
	}, api.OK
}
