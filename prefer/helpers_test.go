package prefer

import (
	"math"
	"slices"
	"testing"

	"decoupage/api"
	"decoupage/kin"
)

const (
	maxUnit = int64(api.MaxUnit)
	maxLen  = int64(api.MaxLen)
)

var auto = api.Len{}

func units(n int64) api.Len { return api.Len{Kind: api.Units, N: n} }

// part is so many hundredths of a percent.
func part(n int64) api.Len { return api.Len{Kind: api.Part, N: n} }

// change is something special about a style.
type change func(s *api.Style)

func width(x api.Len) change            { return func(s *api.Style) { s.Width = x } }
func minW(x api.Len) change             { return func(s *api.Style) { s.MinW = x } }
func maxW(x api.Len) change             { return func(s *api.Style) { s.MaxW = x } }
func margin(side int, x api.Len) change { return func(s *api.Style) { s.Margin[side] = x } }
func pad(side int, x api.Len) change    { return func(s *api.Style) { s.Pad[side] = x } }
func border(side int, n int64) change   { return func(s *api.Style) { s.Border[side] = n } }
func position(p int) change             { return func(s *api.Style) { s.Position = p } }
func hidden(s *api.Style)               { s.Shown = false }

// wide is a width in units.
func wide(n int64) change { return width(units(n)) }

// node is a node with this parent and a style that has nothing special but this.
func node(parent int, special ...change) api.Node {
	n := api.Node{S: api.Style{Shown: true}, Parent: parent}
	for side := range n.S.Pad {
		n.S.Pad[side] = units(0)
	}
	return with([]api.Node{n}, 0, special...)[0]
}

// with is the list with something special about node n.
func with(l []api.Node, n int, special ...change) []api.Node {
	l = slices.Clone(l)
	for _, c := range special {
		c(&l[n].S)
	}
	return l
}

func of(t *testing.T, name string, l []api.Node) *kin.Kin {
	t.Helper()
	k, e := kin.Of(l)
	if e != api.OK {
		t.Fatalf("%s: no tree: %v", name, e)
	}
	return k
}

// check checks that the preferred content width of node n is want, by the program and by hand.
func check(t *testing.T, name string, l []api.Node, n int, want int64) {
	t.Helper()
	if got, ok := Content(of(t, name, l), n); got != want || !ok {
		t.Errorf("%s: Content of %d is %d, %t instead of %d, true", name, n, got, ok, want)
	}
	if got, ok := byHand(l, n); got != want || !ok {
		t.Errorf("%s: by hand, %d has %d, %t instead of %d, true", name, n, got, ok, want)
	}
}

// checkNone checks that node n has no preferred content width, by the program and by hand.
func checkNone(t *testing.T, name string, l []api.Node, n int) {
	t.Helper()
	noContent(t, name, of(t, name, l), n)
	if got, ok := byHand(l, n); got != 0 || ok {
		t.Errorf("%s: by hand, %d has %d, %t instead of 0, false", name, n, got, ok)
	}
}

// noContent checks that the answer is false, and that there is nothing beside that.
func noContent(t *testing.T, name string, k *kin.Kin, n int) {
	t.Helper()
	if got, ok := Content(k, n); got != 0 || ok {
		t.Errorf("%s: Content of %d is %d, %t instead of 0, false", name, n, got, ok)
	}
}

// indices are indices that are no nodes of a list with this many.
func indices(size int) []int {
	return []int{-1, -2, size, size + 1, 1 << 31, 1 << 32, 1<<32 + 1, -1 << 32, math.MinInt, math.MinInt + 1, math.MaxInt}
}
