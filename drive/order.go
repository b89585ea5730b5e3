package drive

import (
	"container/heap"
	"sort"
)

// ready are items that may come, the least one first.
type ready struct{ sort.IntSlice }

// Push is asked for by heap alone.
func (r *ready) Push(at any) { r.IntSlice = append(r.IntSlice, at.(int)) }

// Pop is asked for by heap alone.
func (r *ready) Pop() any {
	last := r.Len() - 1
	at := r.IntSlice[last]
	r.IntSlice = r.IntSlice[:last]
	return at
}

// comer looks, each time that it is asked, for the least item that may come next, and has it come.
func (g graph) comer(items []int) func() (int, bool) {
	back := g.turned()
	waits := make([]int, len(g)) // how many that it hangs on have not come yet
	may := &ready{}
	for _, at := range items {
		waits[at] = len(g[at])
		if waits[at] == 0 {
			heap.Push(may, at)
		}
	}
	return func() (int, bool) {
		if may.Len() == 0 {
			return 0, false
		}
		at := heap.Pop(may).(int)
		for _, i := range back[at] {
			waits[i]--
			if waits[i] == 0 {
				heap.Push(may, i)
			}
		}
		return at, true
	}
}
