package order

import "slices"

// cut is a set of stores: for each line, how many of its first stores belong to it.
type cut []int

// has reports whether a store belongs to the cut.
func (c cut) has(s store) bool {
	return s.place < c[s.line]
}

// smallest returns the cut of the mandatory stores.
func (g *Graph) smallest() cut {
	c := make(cut, len(g.lines))
	for n, l := range g.lines {
		c[n] = l.mandatory
	}
	return c
}

// open returns the lines with stores that are not mandatory, in ascending order.
func (g *Graph) open() []int {
	var open []int
	for n, l := range g.lines {
		if l.mandatory < l.stores {
			open = append(open, n)
		}
	}
	return open
}

// next changes the cut into the one that follows, if there is one. Only the numbers of the open lines can change.
func (g *Graph) next(c cut, open []int) bool {
	for _, n := range slices.Backward(open) {
		if c[n] < g.lines[n].stores {
			c[n]++
			return true
		}
		c[n] = g.lines[n].mandatory
	}
	return false
}

// list returns the stores of a cut in ascending order.
func (g *Graph) list(c cut) []int {
	var list []int
	for i, s := range g.stores {
		if c.has(s) {
			list = append(list, i)
		}
	}
	return list
}

// cutOf returns a set of stores as a cut, and whether it is one.
func (g *Graph) cutOf(set []int) (cut, bool) {
	if g == nil {
		return nil, false
	}
	c := make(cut, len(g.lines))
	seen := make([]bool, len(g.stores))
	for _, i := range set {
		if !g.has(i) || seen[i] {
			return nil, false
		}
		seen[i] = true
		c[g.stores[i].line]++
	}
	for _, i := range set {
		// The stores of a line are all different: they are its first ones exactly if none has a place behind their number.
		if !c.has(g.stores[i]) {
			return nil, false
		}
	}
	for n, l := range g.lines {
		if c[n] < l.mandatory {
			return nil, false
		}
	}
	return c, true
}
