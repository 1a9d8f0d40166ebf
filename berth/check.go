package berth

import (
	"slices"

	"berth/api"
)

// Check tells whether there is a pod (P2).
func Check(p api.Pod) api.Errno {
	if !isName(p.Name) || !areAmounts(p.Need) || p.Port < 0 || p.Port > api.MaxPort {
		return api.ErrPod
	}
	if !areLists(p.Labels, p.Select, p.Bears, p.Near, p.Apart) {
		return api.ErrPod
	}
	return api.OK
}

// CheckNode tells whether there is a node (P2).
func CheckNode(n api.Node) api.Errno {
	if !isName(n.Name) || !areAmounts(n.Room) || !areLists(n.Labels, n.Taints) {
		return api.ErrNode
	}
	return api.OK
}

// Fits tells whether all of some labels are among others (P2).
func Fits(l []api.Label, labels []api.Label) bool {
	for _, label := range l {
		if !slices.Contains(labels, label) {
			return false
		}
	}
	return true
}

func isName(s string) bool {
	if len(s) < 1 || len(s) > api.MaxName {
		return false
	}
	for i := range len(s) {
		if !isNameByte(s[i]) {
			return false
		}
	}
	return true
}

func isNameByte(c byte) bool {
	return 'a' <= c && c <= 'z' || '0' <= c && c <= '9' || c == '-'
}

func areAmounts(a api.Amounts) bool {
	for _, n := range a {
		if n < 0 || n > api.MaxAmount {
			return false
		}
	}
	return true
}

func areLists(lists ...[]api.Label) bool {
	for _, l := range lists {
		if !isList(l) {
			return false
		}
	}
	return true
}

func isList(l []api.Label) bool {
	if len(l) > api.MaxLabels {
		return false
	}
	for i, label := range l {
		if !isName(label.Key) || !isName(label.Value) || hasKey(l[:i], label.Key) {
			return false
		}
	}
	return true
}

func hasKey(l []api.Label, key string) bool {
	for _, label := range l {
		if label.Key == key {
			return true
		}
	}
	return false
}
