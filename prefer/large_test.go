package prefer

import (
	"slices"
	"testing"

	"decoupage/api"
	"decoupage/kin"
)

// checkFast checks a width of a tree that is too great to be worked out by hand.
func checkFast(t *testing.T, name string, k *kin.Kin, n int, want int64) {
	t.Helper()
	if got, ok := Content(k, n); got != want || !ok {
		t.Errorf("%s: Content of %d is %d, %t instead of %d, true", name, n, got, ok, want)
	}
}

// A tree as deep as it may be.
func TestDeepTree(t *testing.T) {
	l := []api.Node{node(-1)}
	for n := 1; n < api.MaxDepth; n++ {
		l = append(l, node(n-1, border(api.Left, 1), margin(api.Right, units(2))))
	}
	for n := range l {
		check(t, "deep", l, n, int64(3*(len(l)-1-n)))
	}
	last := len(l) - 1
	check(t, "width", with(l, last, wide(1000)), 0, int64(1000+3*last))
	check(t, "minimum", with(l, 100, minW(units(maxLen))), 0, maxLen+300)
}

// A tree with as many nodes as there may be, all children of the first one.
func TestBroadTree(t *testing.T) {
	l := []api.Node{node(-1)}
	for n := 1; n < api.MaxNodes; n++ {
		l = append(l, node(0, wide(int64(n*7919%65537))))
	}
	k := of(t, "broad", l)
	var most int64
	for n := 1; n < len(l); n++ {
		most = max(most, int64(n*7919%65537))
		checkFast(t, "a child", k, n, int64(n*7919%65537))
	}
	checkFast(t, "broad", k, 0, most)
}

// A tree with as many nodes as there may be, and as deep, in which most nodes are deep.
func TestBroadAndDeepTree(t *testing.T) {
	l := []api.Node{node(-1)}
	for n := 1; n < api.MaxDepth-1; n++ {
		l = append(l, node(n-1, pad(api.Left, units(1))))
	}
	spine := len(l) - 1
	for len(l) < api.MaxNodes {
		l = append(l, node(spine, wide(int64(len(l)))))
	}
	k := of(t, "both", l)
	for _, n := range []int{0, 1, 2, 100, spine - 1, spine} {
		checkFast(t, "both", k, n, int64(len(l)-1+spine-n))
	}
}

// A tree that branches at each level, so that nothing may be worked out twice.
func TestBranchingTree(t *testing.T) {
	l := []api.Node{node(-1)}
	var grow func(parent, levels int)
	grow = func(parent, levels int) {
		for i := range 2 {
			n := len(l)
			l = append(l, node(parent, border(api.Right, int64(i+1))))
			if levels > 1 {
				grow(n, levels-1)
			}
		}
	}
	grow(0, 15)
	if len(l) != api.MaxNodes {
		t.Fatal("another number of nodes:", len(l))
	}
	k := of(t, "branching", l)
	checkFast(t, "branching", k, 0, 30)
	checkFast(t, "branching", k, 1, 28)
}

// many is a tree with all kinds of answers.
func many() []api.Node {
	return []api.Node{
		node(-1, minW(units(4))), node(0, margin(api.Left, units(5))), node(1, wide(10), border(api.Left, 2)), node(0, position(api.Absolute), maxW(units(30))),
		node(3, wide(80)), node(3, pad(api.Right, units(6))), node(0, wide(20), margin(api.Right, units(-9))), node(6, hidden), node(7, wide(7)),
	}
}

// TestArgumentsStay asks everything of a Kin, and then what it was before.
func TestArgumentsStay(t *testing.T) {
	l := many()
	k := of(t, "arguments", l)
	for n := -1; n <= len(l); n++ {
		Content(k, n)
	}
	fresh := of(t, "fresh", l)
	if k.Len() != len(l) {
		t.Error("another number of nodes:", k.Len())
	}
	for n, x := range l {
		if k.Style(n) != x.S || k.Parent(n) != x.Parent || k.Made(n) != fresh.Made(n) || k.Out(n) != fresh.Out(n) || !slices.Equal(k.Flow(n), fresh.Flow(n)) {
			t.Errorf("node %d has changed", n)
		}
	}
}

// TestAlwaysAlike asks in different orders, with questions about other trees between them.
func TestAlwaysAlike(t *testing.T) {
	l := many()
	one, two, other := of(t, "one", l), of(t, "two", l), of(t, "other", with(l, 2, wide(90)))
	for turn := range 8 {
		for i := range l {
			n := (i*(2*turn+1) + turn) % len(l)
			a, ok := Content(one, n)
			Content(other, n)
			noContent(t, "nil", nil, n)
			b, ok2 := Content(two, n)
			want, wantOk := byHand(l, n)
			if a != want || b != want || ok != wantOk || ok2 != wantOk {
				t.Fatalf("Content of %d is %d, %t and %d, %t instead of %d, %t", n, a, ok, b, ok2, want, wantOk)
			}
		}
	}
}
