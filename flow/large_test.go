package flow

import (
	"slices"
	"testing"

	"decoupage/api"
)

// A tree as deep as it may be, of open boxes: the margins of all of them adjoin.
func TestDeepTree(t *testing.T) {
	l := []api.Node{node(-1)}
	for n := 1; n < api.MaxDepth; n++ {
		l = append(l, node(n-1, margins(int64(n), int64(-n)), margin(api.Left, units(1))))
	}
	last := len(l) - 1
	l[last].S.Height = units(10)
	f, lay, ok := Box(of(t, "deep", l), 0, 1000, auto, false)
	if !ok || len(lay.L) != last || f.H != 10 {
		t.Fatal("deep:", f, lay.High, ok)
	}
	for i, p := range lay.L {
		want := Frame{X: 1, W: int64(999 - i), H: 10, Margin: [4]int64{int64(i + 1), 0, int64(-i - 1), 1}, Known: p.N == last}
		want.Child = solid(collapsed(255), collapsed(-255), 10)
		if i == 0 {
			want.Y = 255
		}
		if p != (Placed{i + 1, want}) {
			t.Fatalf("deep: %+v instead of %+v", p, want)
		}
	}
	// Without a height, margins collapse through all of them.
	f, lay, ok = Box(of(t, "hollow", with(l, last, height(units(0)))), 0, 1000, auto, false)
	if !ok || f.H != 0 || lay.L[0].F.Child != hollow(collapsed(255, -255), collapsed(255, -255)) {
		t.Fatal("hollow:", f, lay.L[0], ok)
	}
	// Something deep within all of them that does not fit.
	k := of(t, "too wide", with(l, last, pad(api.Left, part(10001))))
	noBox(t, "too wide", k, 0, room{maxUnit, auto, false})
	if _, _, ok := Box(k, 0, maxUnit/2, auto, false); !ok {
		t.Error("half as wide")
	}
}

// broad is a tree with as many nodes as there may be, all children of the first one.
func broad() []api.Node {
	l := []api.Node{node(-1)}
	for range api.MaxNodes - 1 {
		l = append(l, node(0, height(units(10)), margins(3, 4)))
	}
	return l
}

func TestBroadTree(t *testing.T) {
	l := broad()
	f, lay, ok := Box(of(t, "broad", l), 0, 100, auto, false)
	if !ok || len(lay.L) != len(l)-1 || f.H != 14*int64(len(l)-1)+3 || len(lay.Pile.Y) != len(l)-1 {
		t.Fatal("broad:", f, ok)
	}
	for i, p := range lay.L {
		if p.N != i+1 || p.F.Y != int64(14*i+3) || lay.Pile.Y[i] != p.F.Y {
			t.Fatalf("broad: %+v", p)
		}
	}
	for _, n := range []int{1, 30000, len(l) - 1} {
		beside, ok := With(of(t, "with", with(l, n, absolute)), n, 100, auto, true)
		want := lay.L[n-1].F
		want.Y -= 3
		if n == 1 {
			want.Y = 0
		}
		if !ok || beside != want {
			t.Errorf("with %d: %+v, %t instead of %+v", n, beside, ok, want)
		}
	}
}

// A tree with as many nodes as there may be, and as deep, in which most nodes are deep.
func TestBroadAndDeepTree(t *testing.T) {
	l := []api.Node{node(-1)}
	for n := 1; n < api.MaxDepth-1; n++ {
		l = append(l, node(n-1))
	}
	spine := len(l) - 1
	for len(l) < api.MaxNodes {
		l = append(l, node(spine, height(units(10)), margins(3, 4)))
	}
	rest := int64(len(l) - 1 - spine)
	f, lay, ok := Box(of(t, "both", l), 0, 100, auto, false)
	if !ok || len(lay.L) != len(l)-1 || f.H != 14*rest+3 {
		t.Fatal("both:", f, ok)
	}
	if !slices.IsSortedFunc(lay.L, func(a, b Placed) int { return a.N - b.N }) {
		t.Error("both: not in order")
	}
	if lay.L[0].F.Y != 3 || lay.L[0].F.H != 14*rest-4 || lay.L[len(lay.L)-1].F.Y != 14*(rest-1) {
		t.Errorf("both: %+v", lay.L[0])
	}
	inside, ok := Inside(of(t, "inside", with(l, 1, absolute)), 1, 100, auto)
	if !ok || len(inside.L) != len(l)-2 || inside.High != f.H {
		t.Error("inside:", inside.High, ok)
	}
}

// many is a tree in which each of the functions has something to say, and one node for each of them.
func many() []api.Node {
	return []api.Node{
		node(-1, rtl), node(0, margins(5, 9)), node(1, height(units(10)), margins(-3, 4)), node(0, absolute, margins(2, 8)), node(3, height(part(5000)), width(units(30))),
		node(3, margins(7, 7)), node(0, height(units(20)), minH(part(2500))), node(3+3, hidden), node(0, margins(1, 1)),
	}
}

// spoil changes everything in a result, and its spare capacity.
func spoil(lay Lay) {
	l, y := lay.L[:cap(lay.L)], lay.Pile.Y[:cap(lay.Pile.Y)]
	for i := range l {
		l[i] = Placed{-7, Frame{X: -7}}
	}
	for i := range y {
		y[i] = -7
	}
}

// TestResultsAreApart changes each result, and asks again.
func TestResultsAreApart(t *testing.T) {
	l := many()
	k := of(t, "apart", l)
	wantF, want, _ := boxByHand(l, 0, wide)
	wantIn, _ := insideByHand(l, 3, 200, auto)
	wantWith, _ := withByHand(l, 3, 200, auto, false)
	for range 3 {
		f, lay, _ := Box(k, 0, wide.w, wide.h, wide.rtl)
		_, kept, _ := Box(k, 0, wide.w, wide.h, wide.rtl)
		in, _ := Inside(k, 3, 200, auto)
		keptIn, _ := Inside(k, 3, 200, auto)
		if f != wantF || !sameLay(lay, want) || !sameLay(in, wantIn) {
			t.Fatalf("%+v, %+v and %+v", f, lay, in)
		}
		_, _ = append(lay.L, Placed{}), append(lay.Pile.Y, 5)
		spoil(lay)
		spoil(in)
		if !sameLay(kept, want) || !sameLay(keptIn, wantIn) {
			t.Fatalf("a result has changed: %+v and %+v", kept, keptIn)
		}
		if f, ok := With(k, 3, 200, auto, false); !ok || f != wantWith {
			t.Fatalf("With is %+v", f)
		}
	}
}

// TestArgumentsStay asks everything of a Kin, and then what it was before.
func TestArgumentsStay(t *testing.T) {
	l := many()
	k := of(t, "arguments", l)
	var flows [][]int
	for n := range l {
		flows = append(flows, k.Flow(n))
	}
	for n := -1; n <= len(l); n++ {
		Box(k, n, 200, auto, false)
		Inside(k, n, 200, auto)
		With(k, n, 200, auto, true)
	}
	for n, x := range l {
		if k.Style(n) != x.S || k.Parent(n) != x.Parent || !slices.Equal(k.Flow(n), flows[n]) || k.Len() != len(l) {
			t.Errorf("node %d has changed", n)
		}
	}
}

// TestAlwaysAlike asks in different orders, with other questions, of this tree and of others, between them.
func TestAlwaysAlike(t *testing.T) {
	l := many()
	one, two, other := of(t, "one", l), of(t, "two", l), of(t, "other", with(l, 2, clip, absolute))
	var y tally
	for turn := range 4 {
		for i := range l {
			n := (i*(2*turn+1) + turn) % len(l)
			for _, in := range []room{wide, {100, known(40), true}, {-1, auto, false}} {
				f, lay, ok := Box(one, n, in.w, in.h, in.rtl)
				Box(other, n, 7, known(3), !in.rtl)
				With(other, n, 7, auto, true)
				f2, lay2, ok2 := Box(two, n, in.w, in.h, in.rtl)
				if f != f2 || !sameLay(lay, lay2) || ok != ok2 {
					t.Fatalf("Box of %d is %+v, %+v, %t and %+v, %+v, %t", n, f, lay, ok, f2, lay2, ok2)
				}
				y.compare(t, "alike", l, in)
			}
		}
	}
}
