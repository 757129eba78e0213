package wires

import (
	"maps"
	"slices"

	"plantwright/api"
)

// needOneWriter: no name may be written twice, neither by one node nor by two.
func (r reader) needOneWriter(nodes []node) {
	ahead := names{}
	for _, n := range nodes {
		for name, times := range n.writes {
			ahead[name] += times
			if ahead[name] > 1 {
				r.GiveUp(api.ErrTwice, n.stmt.At)
			}
		}
	}
}

// inOrder: what the nodes do, in the order in which it is done.
func (r reader) inOrder(nodes []node) []api.Stmt {
	var waiting []node
	var last []api.Stmt
	for _, n := range nodes {
		if n.prev {
			last = append(last, n.stmt)
		} else {
			waiting = append(waiting, n)
		}
	}
	return append(r.placed(waiting), last...)
}

// placed: what nodes without PREV do: each one behind all that write what it reads.
func (r reader) placed(waiting []node) []api.Stmt {
	unwritten := names{}
	for _, n := range waiting {
		maps.Copy(unwritten, n.writes)
	}
	var list []api.Stmt
	for len(waiting) > 0 {
		next := slices.IndexFunc(waiting, func(n node) bool { return n.isFree(unwritten) })
		if next < 0 {
			r.GiveUp(api.ErrLoop, waiting[0].stmt.At)
		}
		for name := range waiting[next].writes {
			delete(unwritten, name)
		}
		list = append(list, waiting[next].stmt)
		waiting = slices.Delete(waiting, next, next+1)
	}
	return list
}

// isFree: does it read no name that is still to be written?
func (n node) isFree(unwritten names) bool {
	for name := range n.reads {
		if unwritten[name] > 0 {
			return false
		}
	}
	return true
}
