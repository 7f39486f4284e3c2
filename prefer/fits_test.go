package prefer

import (
	"slices"
	"testing"

	"decoupage/api"
)

// around are the six things that add to an outer width.
var around = []func(n int64) change{
	func(n int64) change { return border(api.Left, n) },
	func(n int64) change { return border(api.Right, n) },
	func(n int64) change { return pad(api.Left, units(n)) },
	func(n int64) change { return pad(api.Right, units(n)) },
	func(n int64) change { return margin(api.Left, units(n)) },
	func(n int64) change { return margin(api.Right, units(n)) },
}

// add puts a chain of boxes below the last node of a list, each the child of the one before it. The outer width of the first one is total, and those of the others are less.
func add(l []api.Node, total int64) []api.Node {
	part := func() int64 {
		n := min(total, maxLen)
		total -= n
		return n
	}
	chain := []api.Node{node(0, wide(part()))}
	for {
		for _, a := range around {
			chain = with(chain, len(chain)-1, a(part()))
		}
		if total == 0 {
			break
		}
		chain = append(chain, node(0))
	}
	slices.Reverse(chain)
	for _, n := range chain {
		n.Parent = len(l) - 1
		l = append(l, n)
	}
	return l
}

// root is a first node, and a child of it with something special.
func root(special ...change) []api.Node { return []api.Node{node(-1), node(0, special...)} }

// An outer width that is as great as a number may be, and one that is greater by one.
func TestLimit(t *testing.T) {
	for _, n := range []int64{0, 1, maxLen, 7*maxLen + 1, maxUnit - 1, maxUnit} {
		check(t, "a child", add([]api.Node{node(-1)}, n), 0, n)
		check(t, "deep", add(root(), n), 0, n)
		check(t, "deeper", add(append(root(), node(1), node(2)), n), 0, n)
	}
	for _, n := range []int64{maxUnit + 1, maxUnit + 2, maxUnit + maxLen} {
		l := add([]api.Node{node(-1)}, n)
		checkNone(t, "a child", l, 0)
		// Its own outer width is not asked for.
		if got, ok := Content(of(t, "within", l), 1); !ok || got <= maxUnit-6*maxLen || got > maxUnit {
			t.Errorf("within: %d, %t", got, ok)
		}
		l = add(append(root(), node(1), node(2)), n)
		for m := range 4 {
			checkNone(t, "deep", l, m)
		}
	}
}

// Each of the things around a box decides by one whether its outer width fits.
func TestLimitBySide(t *testing.T) {
	for _, a := range around {
		check(t, "fits", add(root(a(5)), maxUnit-5), 0, maxUnit)
		checkNone(t, "does not fit", add(root(a(6)), maxUnit-5), 0)
		check(t, "as a node itself", add(root(a(6)), maxUnit-5), 1, maxUnit-5)
		check(t, "as a node itself", add([]api.Node{node(-1, a(maxLen))}, maxUnit), 0, maxUnit)
	}
}

// A sum may fit although a part of it does not, in whatever order its numbers are.
func TestOrderOfAdding(t *testing.T) {
	// In TestLimitBySide each other side is 0; here margins that are negative make room for the others.
	for _, sides := range [][2]int{{api.Left, api.Right}, {api.Right, api.Left}} {
		narrow := margin(sides[0], units(-maxLen))
		l := add(root(narrow, margin(sides[1], units(maxLen))), maxUnit)
		check(t, "two margins", l, 0, maxUnit)
		checkNone(t, "two margins", with(l, 1, margin(sides[0], units(-maxLen+1))), 0)
		for _, other := range []change{border(api.Left, maxLen), border(api.Right, maxLen), pad(api.Left, units(maxLen)), pad(api.Right, units(maxLen))} {
			check(t, "a margin", add(root(narrow, other), maxUnit), 0, maxUnit)
			checkNone(t, "a margin", add(root(narrow, other, margin(sides[1], units(1))), maxUnit), 0)
		}
	}
	both := root(margin(api.Left, units(-maxLen)), margin(api.Right, units(-maxLen)), border(api.Left, maxLen), pad(api.Right, units(maxLen)))
	check(t, "both", add(both, maxUnit), 0, maxUnit)
	check(t, "both", add(with(both, 1, border(api.Right, 1)), maxUnit-1), 0, maxUnit)
	checkNone(t, "both", add(with(both, 1, border(api.Right, 1)), maxUnit), 0)
}

// What does not fit counts wherever it is considered: a wider or narrower child beside it, a minimum or a maximum around it change nothing.
func TestMisfit(t *testing.T) {
	bad := maxUnit + 1
	checkNone(t, "before another", append(add([]api.Node{node(-1)}, bad), node(0, wide(3))), 0)
	checkNone(t, "after another", add([]api.Node{node(-1), node(0, wide(3)), node(0)}, bad), 0)
	good := append(add([]api.Node{node(-1)}, maxUnit), node(0))
	checkNone(t, "after the widest", add(good, bad), 0)
	for _, bound := range []change{maxW(units(5)), minW(units(5)), width(part(5000)), margin(api.Left, units(-5)), position(api.Relative), func(s *api.Style) { s.Clip = true }} {
		checkNone(t, "bound", add([]api.Node{node(-1, bound)}, bad), 0)
		checkNone(t, "bound within", add(root(bound), bad), 0)
		checkNone(t, "bound within", add(root(bound), bad), 1)
	}
	// A maximum on a box within it makes it fit.
	l := add(append(root(border(api.Left, 7)), node(1)), maxUnit)
	checkNone(t, "around", l, 0)
	check(t, "around", with(l, 2, maxW(units(90))), 0, 90+7)
}

// The children of a box whose Width is in units are not considered, and neither is what is not in the flow.
func TestMisfitNotConsidered(t *testing.T) {
	bad := maxUnit + 1
	for _, w := range []int64{0, 11, maxLen} {
		check(t, "width", add([]api.Node{node(-1, wide(w))}, bad), 0, w)
		l := append(add(root(wide(w)), bad), node(0, wide(11)))
		check(t, "width within", l, 0, max(w, 11))
		check(t, "width within", l, 1, w)
	}
	for _, gone := range []change{hidden, position(api.Absolute), position(api.Fixed)} {
		l := append(add(root(gone), bad), node(0, wide(11)))
		check(t, "not in the flow", l, 0, 11)
		checkNone(t, "itself", l, 1)
		// The box itself is too wide to fit.
		l = add([]api.Node{node(-1)}, bad)
		check(t, "not in the flow itself", append(with(l, 1, gone), node(0, wide(11))), 0, 11)
	}
}
