package agenda

import (
	"math"
	"slices"
	"testing"
)

// lessByHand is the order of P4.1, word by word.
func lessByHand(e, o Entry) bool {
	if e.Key != o.Key {
		return e.Key < o.Key
	}
	if e.Tie != o.Tie {
		return e.Tie < o.Tie
	}
	return e.N < o.N
}

func compareByHand(e, o Entry) int {
	switch {
	case lessByHand(e, o):
		return -1
	case lessByHand(o, e):
		return 1
	}
	return 0
}

// grid has every entry whose numbers are ends of a range or near 0.
func grid() []Entry {
	var l []Entry
	ends := []int64{math.MinInt64, -1, 0, 1, math.MaxInt64}
	for _, k := range ends {
		for _, t := range ends {
			for _, n := range []int{math.MinInt, -1, 0, 1, math.MaxInt} {
				l = append(l, Entry{k, t, n})
			}
		}
	}
	return l
}

// draw is a fixed rule that gives numbers without a pattern.
type draw uint64

func (d *draw) below(n int) int {
	*d = *d*6364136223846793005 + 1442695040888963407
	return int((uint64(*d) >> 33) % uint64(n))
}

func (d *draw) entry(values int) Entry {
	return Entry{int64(d.below(values)), int64(d.below(values)), d.below(values)}
}

// leastIndex is where a plain list has its least entry.
func leastIndex(l []Entry) int {
	at := 0
	for k, e := range l {
		if lessByHand(e, l[at]) {
			at = k
		}
	}
	return at
}

// sortByHand takes the least entry out of a copy of l until none is left.
func sortByHand(l []Entry) []Entry {
	rest := slices.Clone(l)
	var out []Entry
	for len(rest) > 0 {
		at := leastIndex(rest)
		out = append(out, rest[at])
		rest = slices.Delete(rest, at, at+1)
	}
	return out
}

func checkNone(t *testing.T, a *Agenda) {
	t.Helper()
	if e, ok := a.Peek(); ok || e != (Entry{}) {
		t.Error("Peek of an empty agenda:", e, ok)
	}
	if e, ok := a.Next(); ok || e != (Entry{}) {
		t.Error("Next of an empty agenda:", e, ok)
	}
	if n := a.Len(); n != 0 {
		t.Error("Len of an empty agenda:", n)
	}
}

func checkNext(t *testing.T, a *Agenda, want Entry) {
	t.Helper()
	n := a.Len()
	for range 2 {
		if e, ok := a.Peek(); !ok || e != want {
			t.Fatal("Peek:", e, ok, "want", want)
		}
	}
	if a.Len() != n {
		t.Fatal("Peek has changed Len from", n, "to", a.Len())
	}
	if e, ok := a.Next(); !ok || e != want {
		t.Fatal("Next:", e, ok, "want", want)
	}
	if a.Len() != n-1 {
		t.Fatal("Next has changed Len from", n, "to", a.Len())
	}
}

func TestCompare(t *testing.T) {
	for _, c := range []struct {
		e, o Entry
		want int
	}{
		{Entry{}, Entry{}, 0},
		{Entry{Key: 1}, Entry{Key: 2}, -1},
		{Entry{Key: 2}, Entry{Key: 1}, 1},
		{Entry{Key: 1, Tie: 9, N: 9}, Entry{Key: 2}, -1},
		{Entry{Key: 5, Tie: 1}, Entry{Key: 5, Tie: 2}, -1},
		{Entry{Key: 5, Tie: 1, N: 9}, Entry{Key: 5, Tie: 2}, -1},
		{Entry{Key: 5, Tie: 7, N: -1}, Entry{Key: 5, Tie: 7}, -1},
		{Entry{Key: 5, Tie: 7, N: 1}, Entry{Key: 5, Tie: 7}, 1},
		{Entry{5, 7, 3}, Entry{5, 7, 3}, 0},
		{Entry{Key: math.MinInt64}, Entry{Key: math.MaxInt64}, -1},
		{Entry{Tie: math.MinInt64}, Entry{Tie: math.MaxInt64}, -1},
		{Entry{N: math.MinInt}, Entry{N: math.MaxInt}, -1},
		{Entry{Key: 1 << 32}, Entry{Key: 1}, 1},
		{Entry{Tie: 1 << 32}, Entry{Tie: 1}, 1},
		{Entry{Key: 1<<53 + 1}, Entry{Key: 1 << 53}, 1},
	} {
		if got := c.e.Compare(c.o); got != c.want {
			t.Error(c.e, c.o, "got", got, "want", c.want)
		}
	}
}

// TestCompareIsTotalOrder goes through all pairs and triples of the grid.
func TestCompareIsTotalOrder(t *testing.T) {
	l := grid()
	for _, a := range l {
		for _, b := range l {
			ab := a.Compare(b)
			if ab != compareByHand(a, b) {
				t.Fatal(a, b, "got", ab)
			}
			if ab != -b.Compare(a) || (ab == 0) != (a == b) {
				t.Fatal(a, b, "got", ab, "and the other way round", b.Compare(a))
			}
			if ab > 0 {
				continue
			}
			for _, c := range l {
				if b.Compare(c) <= 0 && a.Compare(c) > 0 {
					t.Fatal("not transitive:", a, b, c)
				}
			}
		}
	}
}

func TestExample(t *testing.T) {
	var a Agenda
	a.Add(Entry{Key: 3})
	a.Add(Entry{Key: 1})
	checkNext(t, &a, Entry{Key: 1})
	checkNext(t, &a, Entry{Key: 3})
	checkNone(t, &a)
}

func TestZeroAgenda(t *testing.T) {
	var a Agenda
	checkNone(t, &a)
	checkNone(t, &Agenda{})
	checkNone(t, new(Agenda))
	a.Add(Entry{})
	if a.Len() != 1 {
		t.Error("Len after Add:", a.Len())
	}
	checkNext(t, &a, Entry{})
	checkNone(t, &a)
}

func TestNilAgenda(t *testing.T) {
	var a *Agenda
	checkNone(t, a)
	a.Add(Entry{1, 2, 3})
	checkNone(t, a)
}

func TestOrderOfNext(t *testing.T) {
	for name, want := range map[string][]Entry{
		"one":        {{1, 2, 3}},
		"by Key":     {{Key: -2}, {Key: -1}, {Key: 0}, {Key: 1}},
		"by Tie":     {{4, -2, 9}, {4, -1, 8}, {4, 0, 7}, {4, 1, 6}},
		"by N":       {{4, 5, -2}, {4, 5, -1}, {4, 5, 0}, {4, 5, 1}},
		"Key first":  {{1, 3, 3}, {2, 2, 2}, {3, 1, 1}},
		"equal ones": {{1, 1, 1}, {1, 1, 1}, {1, 1, 2}, {1, 1, 2}, {1, 1, 2}},
		"all equal":  {{}, {}, {}, {}, {}},
		"ends": {
			{math.MinInt64, math.MaxInt64, math.MaxInt},
			{0, math.MinInt64, math.MaxInt},
			{0, math.MaxInt64, math.MinInt},
			{0, math.MaxInt64, math.MaxInt},
			{math.MaxInt64, math.MinInt64, math.MinInt},
		},
	} {
		for _, order := range orders(len(want)) {
			var a Agenda
			for k, at := range order {
				a.Add(want[at])
				if a.Len() != k+1 {
					t.Fatal(name, order, "Len", a.Len(), "after", k+1)
				}
			}
			for _, w := range want {
				checkNext(t, &a, w)
			}
			checkNone(t, &a)
			if t.Failed() {
				t.Fatal(name, order)
			}
		}
	}
}

// orders are all orders of the numbers below n.
func orders(n int) [][]int {
	all := [][]int{{}}
	for k := range n {
		var longer [][]int
		for _, o := range all {
			for at := range k + 1 {
				longer = append(longer, slices.Insert(slices.Clone(o), at, k))
			}
		}
		all = longer
	}
	return all
}

func TestWholeGrid(t *testing.T) {
	want := grid() // in ascending order, as it is made
	var a Agenda
	for k := range want {
		a.Add(want[k*47%len(want)])
	}
	for _, w := range want {
		checkNext(t, &a, w)
	}
	checkNone(t, &a)
}

// TestInTurn adds and removes one by one, empties the agenda and goes on from there.
func TestInTurn(t *testing.T) {
	var a Agenda
	for round := range 3 {
		a.Add(Entry{Key: 5})
		a.Add(Entry{Key: 2, N: round})
		checkNext(t, &a, Entry{Key: 2, N: round})
		a.Add(Entry{Key: 1})
		a.Add(Entry{Key: 5})
		a.Add(Entry{Key: 9})
		checkNext(t, &a, Entry{Key: 1})
		checkNext(t, &a, Entry{Key: 5})
		a.Add(Entry{Key: 4})
		checkNext(t, &a, Entry{Key: 4})
		checkNext(t, &a, Entry{Key: 5})
		checkNext(t, &a, Entry{Key: 9})
		checkNone(t, &a)
		checkNone(t, &a)
	}
}

// TestAgainstList holds long runs of Add and Next against a plain list, over few values (many equal entries) and many.
func TestAgainstList(t *testing.T) {
	for _, values := range []int{1, 2, 3, 1 << 30} {
		d := draw(values)
		for adds := 1; adds < 4; adds++ {
			var a Agenda
			var l []Entry
			for range 600 {
				if d.below(4) < adds {
					e := d.entry(values)
					a.Add(e)
					l = append(l, e)
				} else if len(l) == 0 {
					checkNone(t, &a)
				} else {
					at := leastIndex(l)
					checkNext(t, &a, l[at])
					l = slices.Delete(l, at, at+1)
				}
				if a.Len() != len(l) {
					t.Fatal("Len", a.Len(), "want", len(l))
				}
			}
			for _, e := range sortByHand(l) {
				checkNext(t, &a, e)
			}
			checkNone(t, &a)
		}
	}
}

func TestAgendasAreApart(t *testing.T) {
	var a, b Agenda
	a.Add(Entry{Key: 1})
	checkNone(t, &b)
	b.Add(Entry{Key: 2})
	b.Add(Entry{Key: 0})
	checkNext(t, &a, Entry{Key: 1})
	checkNone(t, &a)
	checkNext(t, &b, Entry{Key: 0})
	checkNext(t, &b, Entry{Key: 2})
}

func TestSorted(t *testing.T) {
	for _, c := range []struct{ l, want []Entry }{
		{nil, nil},
		{[]Entry{}, nil},
		{make([]Entry, 0, 4), nil},
		{[]Entry{{3, 2, 1}}, []Entry{{3, 2, 1}}},
		{[]Entry{{Key: 2}, {Key: 1}}, []Entry{{Key: 1}, {Key: 2}}},
		{[]Entry{{Key: 1}, {Key: 2}}, []Entry{{Key: 1}, {Key: 2}}},
		{[]Entry{{1, 2, 0}, {1, 1, 9}}, []Entry{{1, 1, 9}, {1, 2, 0}}},
		{[]Entry{{1, 1, 0}, {1, 1, -1}}, []Entry{{1, 1, -1}, {1, 1, 0}}},
		{[]Entry{{}, {Key: 1}, {}, {Key: 1}, {}}, []Entry{{}, {}, {}, {Key: 1}, {Key: 1}}},
		{
			[]Entry{{Key: math.MaxInt64}, {N: math.MaxInt}, {N: math.MinInt}, {Key: math.MinInt64}},
			[]Entry{{Key: math.MinInt64}, {N: math.MinInt}, {N: math.MaxInt}, {Key: math.MaxInt64}},
		},
	} {
		if got := Sorted(c.l); !slices.Equal(got, c.want) {
			t.Error(c.l, "got", got, "want", c.want)
		}
	}
}

// TestSortedShortLists goes through all lists of up to 5 of some entries.
func TestSortedShortLists(t *testing.T) {
	kinds := []Entry{{1, 1, 1}, {1, 1, 2}, {1, 2, 0}, {2, 0, 0}}
	lists := [][]Entry{nil}
	for k := 0; k < len(lists); k++ {
		l := lists[k]
		if got, want := Sorted(l), sortByHand(l); !slices.Equal(got, want) {
			t.Fatal(l, "got", got, "want", want)
		}
		if len(l) == 5 {
			continue
		}
		for _, e := range kinds {
			lists = append(lists, append(slices.Clone(l), e))
		}
	}
}

func TestSortedLongLists(t *testing.T) {
	for _, values := range []int{1, 2, 5, 1 << 30} {
		d := draw(values)
		var l []Entry
		for range 700 {
			l = append(l, d.entry(values))
		}
		want := sortByHand(l)
		up := slices.Clone(want)
		slices.Reverse(want)
		down := slices.Clone(want)
		for _, in := range [][]Entry{l, up, down} {
			if !slices.Equal(Sorted(in), up) {
				t.Error("a list of", len(in), "entries is not sorted:", values)
			}
		}
	}
}

// TestSortedMemory checks that the argument stays as it is, with its spare capacity, and that the result shares nothing with it.
func TestSortedMemory(t *testing.T) {
	for _, in := range [][]Entry{
		{},
		{{Key: 4}},
		{{Key: 3}, {Key: 1}, {Key: 2}},
		{{Key: 1}, {Key: 2}, {Key: 3}},
	} {
		whole := append(slices.Clone(in), Entry{7, 7, 7}, Entry{6, 6, 6}, Entry{5, 5, 5})
		before := slices.Clone(whole)
		l := whole[:len(in)]
		s := Sorted(l)
		if !slices.Equal(whole, before) {
			t.Fatal("Sorted has changed its argument:", whole, "was", before)
		}
		s = s[:cap(s)]
		for k := range s {
			s[k] = Entry{-1, -1, -1}
		}
		if !slices.Equal(whole, before) {
			t.Fatal("the result of Sorted shares memory with its argument:", whole)
		}
		again := Sorted(l)
		if want := sortByHand(in); !slices.Equal(again, want) {
			t.Fatal("a second result depends on the first:", again, "want", want)
		}
	}
}
