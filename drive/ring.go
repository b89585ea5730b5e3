package drive

import "slices"

// rings are the least item of each ring, in no order. Items are taken the last one first of those that were through: from
// such a one, against the way of hanging, nothing is met that is not taken already, but for its own ring.
func (g graph) rings() []int {
	var least []int
	back, met := g.turned(), make([]bool, len(g))
	for _, at := range slices.Backward(g.through()) {
		if met[at] {
			continue
		}
		ring := back.flood(at, met)
		if len(ring) > 1 || slices.Contains(g[at], at) {
			least = append(least, slices.Min(ring))
		}
	}
	return least
}

// through are all items, each as soon as all is through that it leads to. Those that are not yet wait in a list, since
// they may be more than calls can be within one another.
func (g graph) through() []int {
	var done []int
	met, gone := make([]bool, len(g)), make([]int, len(g))
	for start := range g {
		if met[start] {
			continue
		}
		met[start] = true
		for open := []int{start}; len(open) > 0; {
			at := open[len(open)-1]
			if gone[at] == len(g[at]) {
				done = append(done, at)
				open = open[:len(open)-1]
				continue
			}
			next := g[at][gone[at]]
			gone[at]++
			if !met[next] {
				met[next] = true
				open = append(open, next)
			}
		}
	}
	return done
}

// flood are an item, and all to which it leads by items that were not met; they are then.
func (g graph) flood(start int, met []bool) []int {
	met[start] = true
	all := []int{start}
	for i := 0; i < len(all); i++ {
		for _, at := range g[all[i]] {
			if !met[at] {
				met[at] = true
				all = append(all, at)
			}
		}
	}
	return all
}
