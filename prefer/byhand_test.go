package prefer

import (
	"slices"
	"testing"

	"decoupage/api"
	"decoupage/kin"
)

// chapter is the chapter written out a second time for one tree, with its lists of nodes worked out from the list alone.
// Within the limits of a tree no sum exceeds int64, so widths are worked out whether they fit or not; what fits is a question for afterwards.
type chapter struct {
	l []api.Node
	// contents are the widths worked out so far.
	contents map[int]int64
}

func (c chapter) made(n int) bool {
	for ; n != -1; n = c.l[n].Parent {
		if !c.l[n].S.Shown {
			return false
		}
	}
	return true
}

func (c chapter) inFlow(n int) bool {
	p := c.l[n].S.Position
	return c.made(n) && (n == 0 || p != api.Absolute && p != api.Fixed)
}

// kids are the children in the flow.
func (c chapter) kids(n int) []int {
	var kids []int
	for m := n + 1; m < len(c.l) && c.l[m].Parent >= n; m++ {
		if c.l[m].Parent == n && c.inFlow(m) {
			kids = append(kids, m)
		}
	}
	return kids
}

func (c chapter) hasWidth(n int) bool { return c.l[n].S.Width.Kind == api.Units }

func (c chapter) content(n int) int64 {
	if w, ok := c.contents[n]; ok {
		return w
	}
	s := c.l[n].S
	var w int64
	if c.hasWidth(n) {
		w = s.Width.N
	} else {
		for _, kid := range c.kids(n) {
			if o := c.outer(kid); o > w {
				w = o
			}
		}
	}
	most := maxUnit
	if s.MaxW.Kind == api.Units {
		most = s.MaxW.N
	}
	if w > most {
		w = most
	}
	if s.MinW.Kind == api.Units && w < s.MinW.N {
		w = s.MinW.N
	}
	c.contents[n] = w
	return w
}

func (c chapter) outer(n int) int64 {
	s := c.l[n].S
	w := c.content(n) + s.Border[api.Left] + s.Border[api.Right]
	for _, x := range []api.Len{s.Margin[api.Left], s.Margin[api.Right], s.Pad[api.Left], s.Pad[api.Right]} {
		if x.Kind == api.Units {
			w += x.N
		}
	}
	return w
}

// considered are the boxes whose outer widths count for the width of n.
func (c chapter) considered(n int) []int {
	var l []int
	if !c.hasWidth(n) {
		l = c.kids(n)
	}
	for i := 0; i < len(l); i++ {
		if !c.hasWidth(l[i]) {
			l = append(l, c.kids(l[i])...)
		}
	}
	return l
}

func byHand(l []api.Node, n int) (int64, bool) {
	c := chapter{l, map[int]int64{}}
	if n < 0 || n >= len(l) || !c.made(n) {
		return 0, false
	}
	for _, m := range c.considered(n) {
		if o := c.outer(m); o > maxUnit || o < -maxUnit {
			return 0, false
		}
	}
	return c.content(n), true
}

// tally counts the answers that are false and those that are true.
type tally [2]int

// compare asks for each node of a tree, and holds the answers against those by hand.
func (y *tally) compare(t *testing.T, name string, l []api.Node) {
	t.Helper()
	k, e := kin.Of(l)
	if e != api.OK {
		t.Fatalf("%s: no tree: %v", name, e)
	}
	for n := -1; n <= len(l); n++ {
		got, ok := Content(k, n)
		want, wantOk := byHand(l, n)
		if got != want || ok != wantOk {
			t.Fatalf("%s: Content of %d in %+v is %d, %t instead of %d, %t", name, n, l, got, ok, want, wantOk)
		}
		if ok {
			y[1]++
		} else {
			y[0]++
		}
	}
}

func (y *tally) checkEach(t *testing.T, no, yes int) {
	t.Helper()
	if y[0] < no || y[1] < yes {
		t.Errorf("too few answers of one kind: %d with false, %d with true", y[0], y[1])
	}
}

// shapes are the trees of this many nodes, as lists of parents.
func shapes(size int) [][]int {
	if size == 1 {
		return [][]int{{-1}}
	}
	var all [][]int
	for _, l := range shapes(size - 1) {
		for parent := len(l) - 1; parent != -1; parent = l[parent] {
			all = append(all, append(slices.Clone(l), parent))
		}
	}
	return all
}

// compareAll has all trees of this size whose nodes are of these kinds.
func compareAll(t *testing.T, size int, kinds [][]change) {
	t.Helper()
	var y tally
	for _, parents := range shapes(size) {
		all := 1
		for range parents {
			all *= len(kinds)
		}
		for i := range all {
			var l []api.Node
			for _, parent := range parents {
				l = append(l, node(parent, kinds[i%len(kinds)]...))
				i /= len(kinds)
			}
			y.compare(t, "all trees", l)
		}
	}
	y.checkEach(t, 100, 100)
}

// TestTreesOfThree has many kinds of nodes, of which each may be above, below and beside each other one.
func TestTreesOfThree(t *testing.T) {
	compareAll(t, 3, [][]change{
		{},
		{wide(10)},
		{wide(0), margin(api.Left, units(4))},
		{margin(api.Right, units(-3)), pad(api.Left, units(7))},
		{margin(api.Left, units(-30)), minW(units(6))},
		{width(part(5000)), border(api.Right, 5)},
		{width(part(5000)), pad(api.Right, part(5000)), margin(api.Left, part(5000)), border(api.Left, 2)},
		{maxW(units(9)), margin(api.Left, auto), margin(api.Right, units(1))},
		{minW(units(12)), maxW(units(8))},
		{minW(part(5000)), maxW(part(1)), wide(20), pad(api.Right, units(3))},
		{wide(11), minW(units(15))},
		{wide(13), maxW(units(5)), border(api.Left, 1)},
		{wide(40), position(api.Absolute), margin(api.Right, units(9))},
		{position(api.Fixed), minW(units(17)), pad(api.Left, units(1))},
		{wide(25), position(api.Relative)},
		{hidden, wide(50), minW(units(60))},
	})
}

func TestTreesOfFive(t *testing.T) {
	compareAll(t, 5, [][]change{
		{margin(api.Left, units(3))},
		{wide(7), pad(api.Right, units(2))},
		{maxW(units(6)), minW(units(4)), margin(api.Right, units(-5))},
		{border(api.Left, 1), position(api.Absolute)},
		{hidden},
	})
}

// draw draws numbers: the same ones at each run.
type draw uint64

func (d *draw) below(n int) int {
	*d = *d*6364136223846793005 + 1442695040888963407
	return int(uint64(*d) >> 33 % uint64(n))
}

// one draws from a list.
func (d *draw) one(l []int64) int64 { return l[d.below(len(l))] }

// length draws a length; one in so many is not in units.
func (d *draw) length(l []int64, mayBeAuto bool, oneIn int) api.Len {
	switch n := d.below(2 * oneIn); {
	case n == 0 && mayBeAuto:
		return auto
	case n <= 1:
		return part(d.one([]int64{0, 1, 5000, 10000, api.MaxPart}))
	}
	return units(d.one(l))
}

// node draws a node whose lengths are from these lists. Widths, minima and maxima are auto where has draws 0.
func (d *draw) node(parent int, signed, positive []int64, has int) api.Node {
	n := node(parent)
	for side := range 4 {
		n.S.Margin[side] = d.length(signed, true, 6)
		n.S.Pad[side] = d.length(positive, false, 6)
		n.S.Border[side] = d.one(positive)
	}
	for _, x := range []*api.Len{&n.S.Width, &n.S.MinW, &n.S.MaxW} {
		if d.below(has) == 0 {
			*x = d.length(positive, false, 3)
		}
	}
	if d.below(12) == 0 {
		n.S.Position = d.below(4)
	}
	n.S.Shown = d.below(20) > 0
	return n
}

// under draws the parent of the node that follows a list.
func (d *draw) under(l []api.Node) int {
	parent := len(l) - 1
	for d.below(3) == 0 && parent > 0 {
		parent = l[parent].Parent
	}
	return parent
}

func TestDrawnTrees(t *testing.T) {
	d := draw(15)
	var y tally
	for range 6000 {
		l := []api.Node{node(-1)}
		for range d.below(14) {
			l = append(l, d.node(d.under(l), []int64{-40, -9, -1, 0, 2, 11, 30}, []int64{0, 0, 1, 5, 14}, 4))
		}
		y.compare(t, "drawn", l)
	}
	y.checkEach(t, 5000, 20000)
}

// TestDrawnTreesAtTheLimits has trees so deep that widths at their limits add up to what does not fit, with numbers that decide at some depth by little.
func TestDrawnTreesAtTheLimits(t *testing.T) {
	d := draw(150)
	var fit, misfit int
	for range 60 {
		l := []api.Node{node(-1)}
		for len(l) < 220 {
			n := d.node(len(l)-1, []int64{maxLen, maxLen, maxLen, maxLen - 1, -1}, []int64{maxLen, maxLen, maxLen, maxLen - 1}, 1<<20)
			n.S.Position, n.S.Shown = api.Static, true
			l = append(l, n)
		}
		for range 5 {
			l = append(l, d.node(d.under(l), []int64{-maxLen, 0, maxLen}, []int64{0, maxLen}, 4))
		}
		k := of(t, "limits", l)
		for _, n := range []int{0, 1, 2, 5, 10, 20, 30, 60, 100, 219, 220, 221, 222, 223, 224} {
			got, ok := Content(k, n)
			want, wantOk := byHand(l, n)
			if got != want || ok != wantOk {
				t.Fatalf("Content of %d in %+v is %d, %t instead of %d, %t", n, l, got, ok, want, wantOk)
			}
			if ok && got > maxUnit/2 {
				fit++
			}
			if !ok && n < 220 {
				misfit++
			}
		}
	}
	if fit < 50 || misfit < 50 {
		t.Error("too few answers of one kind:", fit, misfit)
	}
}
