package flow

import (
	"math"
	"slices"
	"testing"

	"decoupage/api"
	"decoupage/kin"
	"decoupage/pile"
	"decoupage/size"
	"decoupage/strut"
)

const (
	maxUnit = int64(api.MaxUnit)
	minInt  = int64(math.MinInt64)
	maxInt  = int64(math.MaxInt64)
)

var auto = size.Size{Auto: true}

func known(n int64) size.Size { return size.Size{N: n} }

func units(n int64) api.Len { return api.Len{Kind: api.Units, N: n} }

// part is so many hundredths of a percent.
func part(n int64) api.Len { return api.Len{Kind: api.Part, N: n} }

// change is something special about a style.
type change func(s *api.Style)

func width(x api.Len) change            { return func(s *api.Style) { s.Width = x } }
func minW(x api.Len) change             { return func(s *api.Style) { s.MinW = x } }
func maxW(x api.Len) change             { return func(s *api.Style) { s.MaxW = x } }
func height(x api.Len) change           { return func(s *api.Style) { s.Height = x } }
func minH(x api.Len) change             { return func(s *api.Style) { s.MinH = x } }
func maxH(x api.Len) change             { return func(s *api.Style) { s.MaxH = x } }
func margin(side int, x api.Len) change { return func(s *api.Style) { s.Margin[side] = x } }
func pad(side int, x api.Len) change    { return func(s *api.Style) { s.Pad[side] = x } }
func border(side int, n int64) change   { return func(s *api.Style) { s.Border[side] = n } }
func position(p int) change             { return func(s *api.Style) { s.Position = p } }
func clip(s *api.Style)                 { s.Clip = true }
func rtl(s *api.Style)                  { s.RTL = true }
func hidden(s *api.Style)               { s.Shown = false }

// margins are a top and a bottom margin.
func margins(top, bottom int64) change {
	return func(s *api.Style) { s.Margin[api.Top], s.Margin[api.Bottom] = units(top), units(bottom) }
}

func absolute(s *api.Style) { s.Position = api.Absolute }

// node is a node with this parent and a style that has nothing special but this.
func node(parent int, special ...change) api.Node {
	n := api.Node{S: api.Style{Shown: true}, Parent: parent}
	for side := range n.S.Pad {
		n.S.Pad[side] = units(0)
	}
	for _, c := range special {
		c(&n.S)
	}
	return n
}

// with is the list with something special about node n.
func with(l []api.Node, n int, special ...change) []api.Node {
	l = slices.Clone(l)
	for _, c := range special {
		c(&l[n].S)
	}
	return l
}

func of(t *testing.T, name string, l []api.Node) *kin.Kin {
	t.Helper()
	k, e := kin.Of(l)
	if e != api.OK {
		t.Fatalf("%s: no tree: %v", name, e)
	}
	return k
}

func sameLay(a, b Lay) bool {
	return slices.Equal(a.L, b.L) && slices.Equal(a.Pile.Y, b.Pile.Y) && a.Pile.Edge == b.Pile.Edge &&
		a.Pile.Top == b.Pile.Top && a.Pile.Cur == b.Pile.Cur && a.Pile.AtTop == b.Pile.AtTop && a.High == b.High
}

// askBox asks Box, whose answer is true and is that of the chapter.
func askBox(t *testing.T, name string, l []api.Node, n int, in room) (Frame, Lay) {
	t.Helper()
	f, lay, ok := Box(of(t, name, l), n, in.w, in.h, in.rtl)
	wantF, want, wantOk := boxByHand(l, n, in)
	if !ok || !wantOk || f != wantF || !sameLay(lay, want) {
		t.Fatalf("%s: Box of %d is %+v, %+v, %t instead of %+v, %+v, %t", name, n, f, lay, ok, wantF, want, wantOk)
	}
	return f, lay
}

// askInside asks Inside, whose answer is true and is that of the chapter.
func askInside(t *testing.T, name string, l []api.Node, n int, w int64, h size.Size) Lay {
	t.Helper()
	lay, ok := Inside(of(t, name, l), n, w, h)
	want, wantOk := insideByHand(l, n, w, h)
	if !ok || !wantOk || !sameLay(lay, want) {
		t.Fatalf("%s: Inside of %d is %+v, %t instead of %+v, %t", name, n, lay, ok, want, wantOk)
	}
	return lay
}

// askWith asks With, whose answer is true and is that of the chapter.
func askWith(t *testing.T, name string, l []api.Node, n int, w int64, h size.Size, open bool) Frame {
	t.Helper()
	f, ok := With(of(t, name, l), n, w, h, open)
	want, wantOk := withByHand(l, n, w, h, open)
	if !ok || !wantOk || f != want {
		t.Fatalf("%s: With of %d is %+v, %t instead of %+v, %t", name, n, f, ok, want, wantOk)
	}
	return f
}

// The functions whose names begin with no check that the answer is false, and that there is nothing beside that.

func noBox(t *testing.T, name string, k *kin.Kin, n int, in room) {
	t.Helper()
	if f, lay, ok := Box(k, n, in.w, in.h, in.rtl); ok || f != (Frame{}) || !sameLay(lay, Lay{}) {
		t.Errorf("%s: Box of %d is %+v, %+v, %t", name, n, f, lay, ok)
	}
}

func noInside(t *testing.T, name string, k *kin.Kin, n int, w int64, h size.Size) {
	t.Helper()
	if lay, ok := Inside(k, n, w, h); ok || !sameLay(lay, Lay{}) {
		t.Errorf("%s: Inside of %d is %+v, %t", name, n, lay, ok)
	}
}

func noWith(t *testing.T, name string, k *kin.Kin, n int, w int64, h size.Size) {
	t.Helper()
	for _, open := range []bool{false, true} {
		if f, ok := With(k, n, w, h, open); ok || f != (Frame{}) {
			t.Errorf("%s: With of %d, %t is %+v, %t", name, n, open, f, ok)
		}
	}
}

// spot is where a box is, and how great its content is.
type spot struct {
	n          int
	x, y, w, h int64
}

func checkSpots(t *testing.T, name string, l []Placed, want ...spot) {
	t.Helper()
	var got []spot
	for _, p := range l {
		got = append(got, spot{p.N, p.F.X, p.F.Y, p.F.W, p.F.H})
	}
	if !slices.Equal(got, want) {
		t.Errorf("%s: boxes at %v instead of %v", name, got, want)
	}
}

// collapsed is the strut of these margins.
func collapsed(l ...int64) strut.Strut {
	var s strut.Strut
	for _, m := range l {
		s = strut.Strut{P: max(s.P, m), N: min(s.N, m)}
	}
	return s
}

// solid is a child through which margins do not collapse.
func solid(inner, bottom strut.Strut, high int64) pile.Child {
	return pile.Child{Top: inner, Inner: inner, Bottom: bottom, High: high}
}

// hollow is a child through which margins collapse.
func hollow(inner, whole strut.Strut) pile.Child {
	return pile.Child{Top: whole, Inner: inner, Bottom: whole, Through: true}
}

func checkChild(t *testing.T, name string, f Frame, want pile.Child) {
	t.Helper()
	if f.Child != want {
		t.Errorf("%s: as a child %+v instead of %+v", name, f.Child, want)
	}
}
