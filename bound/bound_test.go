package bound

import (
	"math"
	"slices"
	"testing"

	"decoupage/api"
	"decoupage/size"
)

const (
	minInt = math.MinInt64
	maxInt = math.MaxInt64
)

func auto() size.Size         { return size.Size{Auto: true} }
func units(n int64) size.Size { return size.Size{N: n} }

// answer is what f returns for one call.
type answer struct {
	value string
	n     int64
	ok    bool
}

// script is an f that gives its answers in their order, whatever it is called with, and keeps what that was.
type script struct {
	answers []answer
	calls   []size.Size
}

func (s *script) next(x size.Size) (string, int64, bool) {
	a := answer{"one call too many", 0, true}
	if i := len(s.calls); i < len(s.answers) {
		a = s.answers[i]
	}
	s.calls = append(s.calls, x)
	return a.value, a.n, a.ok
}

// numbered are good answers with these numbers: a, b, c and so on.
func numbered(l ...int64) []answer {
	var out []answer
	for i, n := range l {
		out = append(out, answer{string(rune('a' + i)), n, true})
	}
	return out
}

// check holds Solve with these answers against the calls and the result that it should have.
func check(t *testing.T, answers []answer, own size.Size, least, most int64, calls []size.Size, value string, ok bool) {
	t.Helper()
	s := &script{answers: answers}
	v, fine := Solve(s.next, own, least, most)
	if v != value || fine != ok {
		t.Errorf("%v for %v, %d to %d: %q, %t instead of %q, %t", answers, own, least, most, v, fine, value, ok)
	}
	if !slices.Equal(s.calls, calls) {
		t.Errorf("%v for %v, %d to %d: called with %v instead of %v", answers, own, least, most, s.calls, calls)
	}
}

// owns are sizes to begin with: f gets each of them as it is.
func owns() []size.Size {
	return []size.Size{auto(), {Auto: true, N: 7}, units(0), units(5), units(-5), units(api.MaxUnit), units(minInt), units(maxInt)}
}

func TestExample(t *testing.T) {
	for _, own := range owns() {
		calls := 0
		five := func(s size.Size) (size.Size, int64, bool) {
			calls++
			return s, 5, true
		}
		if v, ok := Solve(five, own, 0, 9); v != own || !ok || calls != 1 {
			t.Errorf("%v: %v, %t, %d calls", own, v, ok, calls)
		}
	}
}

// What is called, with what and in which order, is a matter of the numbers alone, not of own.
func TestCalls(t *testing.T) {
	for _, c := range []struct {
		name        string
		numbers     []int64
		least, most int64
		bounds      []int64
	}{
		{"within", []int64{5}, 0, 9, nil},
		{"one below most", []int64{8}, 0, 9, nil},
		{"equal to most", []int64{9}, 0, 9, nil},
		{"one above most", []int64{10, 9}, 0, 9, []int64{9}},
		{"far above most", []int64{1000, 9}, 0, 9, []int64{9}},
		{"one above least", []int64{4}, 3, 9, nil},
		{"equal to least", []int64{3}, 3, 9, nil},
		{"one below least", []int64{2, 3}, 3, 9, []int64{3}},
		{"far below least", []int64{-1000, 3}, 3, 9, []int64{3}},
		{"above most, then one above least", []int64{10, 4}, 3, 9, []int64{9}},
		{"above most, then equal to least", []int64{10, 3}, 3, 9, []int64{9}},
		{"above most, then below least", []int64{10, 2, 3}, 3, 9, []int64{9, 3}},
		{"above most, then above it again", []int64{10, 11}, 3, 9, []int64{9}},
		{"above most, then much more above it", []int64{10, maxInt}, 3, 9, []int64{9}},
		{"below least, then still below it", []int64{2, 1}, 3, 9, []int64{3}},
		{"below least, then above most", []int64{2, 10}, 3, 9, []int64{3}},
		{"above most, below least, below it again", []int64{10, 2, 2}, 3, 9, []int64{9, 3}},
		{"above most, below least, above most", []int64{10, 2, 10}, 3, 9, []int64{9, 3}},
		{"least wins over most", []int64{7, 4, 6}, 6, 4, []int64{4, 6}},
		{"least wins though the number is above both", []int64{9, 4, 6}, 6, 4, []int64{4, 6}},
		{"between, with most below least", []int64{5, 4, 6}, 6, 4, []int64{4, 6}},
		{"equal to least, with most below it", []int64{6, 4, 6}, 6, 4, []int64{4, 6}},
		{"above most, then not below least, with most below least", []int64{5, 6}, 6, 4, []int64{4}},
		{"equal to most, with most below least", []int64{4, 6}, 6, 4, []int64{6}},
		{"below both, with most below least", []int64{3, 6}, 6, 4, []int64{6}},
		{"least equal to most: equal", []int64{4}, 4, 4, nil},
		{"least equal to most: above", []int64{5, 4}, 4, 4, []int64{4}},
		{"least equal to most: below", []int64{3, 4}, 4, 4, []int64{4}},
		{"negative, within", []int64{-5}, -9, -1, nil},
		{"negative, above most", []int64{0, -1}, -9, -1, []int64{-1}},
		{"negative, below least", []int64{-10, -9}, -9, -1, []int64{-9}},
		{"limits of a size", []int64{api.MaxUnit}, 0, api.MaxUnit, nil},
		{"beyond the limits of a size", []int64{api.MaxUnit + 1, api.MaxUnit}, 0, api.MaxUnit, []int64{api.MaxUnit}},
	} {
		for _, own := range owns() {
			t.Run(c.name, func(t *testing.T) {
				calls := []size.Size{own}
				for _, n := range c.bounds {
					calls = append(calls, units(n))
				}
				answers := numbered(c.numbers...)
				check(t, answers, own, c.least, c.most, calls, answers[len(answers)-1].value, true)
			})
		}
	}
}

func TestExtremeNumbers(t *testing.T) {
	for _, c := range []struct {
		numbers     []int64
		least, most int64
		bounds      []int64
	}{
		{[]int64{0}, minInt, maxInt, nil},
		{[]int64{minInt}, minInt, maxInt, nil},
		{[]int64{maxInt}, minInt, maxInt, nil},
		{[]int64{minInt, 0}, 0, maxInt, []int64{0}},
		{[]int64{minInt, minInt + 1}, minInt + 1, maxInt, []int64{minInt + 1}},
		{[]int64{minInt, maxInt}, maxInt, maxInt, []int64{maxInt}},
		{[]int64{maxInt - 1, maxInt}, maxInt, maxInt, []int64{maxInt}},
		{[]int64{maxInt}, maxInt, maxInt, nil},
		{[]int64{maxInt, 0}, minInt, 0, []int64{0}},
		{[]int64{maxInt, maxInt - 1}, minInt, maxInt - 1, []int64{maxInt - 1}},
		{[]int64{maxInt, minInt}, minInt, minInt, []int64{minInt}},
		{[]int64{minInt + 1, minInt}, minInt, minInt, []int64{minInt}},
		{[]int64{minInt}, minInt, minInt, nil},
		{[]int64{maxInt, minInt, maxInt}, maxInt, minInt, []int64{minInt, maxInt}},
		{[]int64{0, minInt, maxInt}, maxInt, minInt, []int64{minInt, maxInt}},
		{[]int64{minInt, maxInt}, maxInt, minInt, []int64{maxInt}},
		{[]int64{maxInt, maxInt}, 0, 9, []int64{9}},
		{[]int64{minInt, minInt}, 0, 9, []int64{0}},
		{[]int64{maxInt, minInt, minInt}, 0, 9, []int64{9, 0}},
	} {
		for _, own := range owns() {
			calls := []size.Size{own}
			for _, n := range c.bounds {
				calls = append(calls, units(n))
			}
			answers := numbered(c.numbers...)
			check(t, answers, own, c.least, c.most, calls, answers[len(answers)-1].value, true)
		}
	}
}

// After a false f is not called any more, though the number beside it would ask for it, and nothing of that call or of those before it is returned.
func TestFalse(t *testing.T) {
	odd := []int64{minInt, -1, 0, 2, 3, 5, 9, 10, 1000, maxInt}
	for _, own := range owns() {
		for _, n := range odd {
			no := answer{"no", n, false}
			rest := numbered(5, 5, 5)
			check(t, append([]answer{no}, rest...), own, 3, 9, []size.Size{own}, "", false)
			check(t, append([]answer{{"a", 10, true}, no}, rest...), own, 3, 9, []size.Size{own, units(9)}, "", false)
			check(t, append([]answer{{"a", 2, true}, no}, rest...), own, 3, 9, []size.Size{own, units(3)}, "", false)
			check(t, append([]answer{{"a", 10, true}, {"b", 2, true}, no}, rest...), own, 3, 9, []size.Size{own, units(9), units(3)}, "", false)
		}
	}
}

// byHand is the chapter, sentence by sentence: the calls, and the result.
func byHand(answers []answer, own size.Size, least, most int64) ([]size.Size, string, bool) {
	calls := []size.Size{own}
	last := answers[0]
	if last.ok && last.n > most {
		last = answers[len(calls)]
		calls = append(calls, size.Size{Auto: false, N: most})
	}
	if last.ok && last.n < least {
		last = answers[len(calls)]
		calls = append(calls, size.Size{Auto: false, N: least})
	}
	if !last.ok {
		return calls, "", false
	}
	return calls, last.value, true
}

// All combinations of three answers and two bounds over a few numbers.
func TestByHand(t *testing.T) {
	numbers := []int64{minInt, -1, 0, 1, maxInt}
	var choices []answer
	for _, n := range numbers {
		choices = append(choices, answer{ok: true, n: n}, answer{ok: false, n: n})
	}
	for _, own := range []size.Size{auto(), units(0), units(3)} {
		for _, least := range numbers {
			for _, most := range numbers {
				for i := range 1000 {
					answers := []answer{choices[i%10], choices[i/10%10], choices[i/100]}
					for k, name := range []string{"first", "second", "third"} {
						answers[k].value = name
					}
					calls, value, ok := byHand(answers, own, least, most)
					check(t, answers, own, least, most, calls, value, ok)
				}
			}
		}
	}
}

func TestNil(t *testing.T) {
	for _, own := range owns() {
		for _, b := range [][2]int64{{0, 9}, {9, 0}, {0, 0}, {minInt, maxInt}, {maxInt, minInt}} {
			if v, ok := Solve[int](nil, own, b[0], b[1]); v != 0 || ok {
				t.Errorf("int: %v, %t", v, ok)
			}
			if v, ok := Solve[string](nil, own, b[0], b[1]); v != "" || ok {
				t.Errorf("string: %v, %t", v, ok)
			}
			if v, ok := Solve[shape](nil, own, b[0], b[1]); v != (shape{}) || ok {
				t.Errorf("struct: %v, %t", v, ok)
			}
			if v, ok := Solve[*shape](nil, own, b[0], b[1]); v != nil || ok {
				t.Errorf("pointer: %v, %t", v, ok)
			}
		}
	}
}

// shape is a value made of several parts.
type shape struct {
	tried size.Size
	l     [2]int64
	name  string
}

// frame is what a caller knows; its method is passed as a method value.
type frame struct {
	content, edge int64
}

// fit takes the content where the size is auto, and refuses a size of 13.
func (f frame) fit(s size.Size) (shape, int64, bool) {
	n := size.Or(s, f.content)
	return shape{s, [2]int64{n, n + 2*f.edge}, "fit"}, n, n != 13
}

func TestMethodValueAndStruct(t *testing.T) {
	for _, c := range []struct {
		own         size.Size
		least, most int64
		tried       size.Size
		n           int64
		ok          bool
	}{
		{auto(), 0, 99, auto(), 50, true},
		{auto(), 0, 40, units(40), 40, true},
		{auto(), 60, 99, units(60), 60, true},
		{auto(), 60, 40, units(60), 60, true},
		{units(5), 0, 40, units(5), 5, true},
		{units(5), 7, 40, units(7), 7, true},
		{units(41), 7, 40, units(40), 40, true},
		{units(13), 0, 40, size.Size{}, 0, false},
		{units(14), 0, 13, size.Size{}, 0, false},
		{units(5), 13, 40, size.Size{}, 0, false},
		{units(14), 13, 10, size.Size{}, 0, false},
	} {
		want := shape{}
		if c.ok {
			want = shape{c.tried, [2]int64{c.n, c.n + 6}, "fit"}
		}
		f := frame{content: 50, edge: 3}
		for range 3 {
			if v, ok := Solve(f.fit, c.own, c.least, c.most); v != want || ok != c.ok {
				t.Errorf("%v: %v, %t", c, v, ok)
			}
		}
		if f != (frame{content: 50, edge: 3}) {
			t.Errorf("%v: the receiver is %v now", c, f)
		}
	}
}

// solveFor is Solve for a value that is held against the zero value of its type if f returns false.
func solveFor[T comparable](t *testing.T, value T) {
	t.Helper()
	var zero T
	for _, c := range []struct {
		own  size.Size
		want T
		ok   bool
	}{
		{units(5), value, true},
		{units(2), value, true},
		{units(10), value, true},
		{units(7), zero, false},
	} {
		f := func(s size.Size) (T, int64, bool) { return value, s.N, s.N != 7 }
		if v, ok := Solve(f, c.own, 3, 9); v != c.want || ok != c.ok {
			t.Errorf("%v: %v, %t", c.own, v, ok)
		}
	}
}

func TestTypes(t *testing.T) {
	solveFor(t, 7)
	solveFor(t, "text")
	solveFor(t, true)
	solveFor(t, struct{}{})
	solveFor(t, [4]int64{1, 2, 3, 4})
	solveFor(t, shape{auto(), [2]int64{1, 2}, "some"})
	solveFor(t, &shape{})
	solveFor[any](t, 5)
	solveFor[error](t, api.ErrArg)
}

// A list is handed on as f returned it, and is nil beside a false.
func TestList(t *testing.T) {
	f := func(s size.Size) ([]int64, int64, bool) { return []int64{s.N, 1}, s.N, s.N != 7 }
	if l, ok := Solve(f, units(10), 0, 9); !slices.Equal(l, []int64{9, 1}) || !ok {
		t.Errorf("%v, %t", l, ok)
	}
	if l, ok := Solve(f, units(7), 0, 9); l != nil || ok {
		t.Errorf("%v, %t", l, ok)
	}
}

// Solve does not panic for any argument, and an f is one: a call of it that panics is one without a result.
func TestPanicOfF(t *testing.T) {
	for k, c := range []struct {
		numbers []int64
		calls   []size.Size
	}{
		{nil, []size.Size{auto()}},
		{[]int64{10}, []size.Size{auto(), units(9)}},
		{[]int64{2}, []size.Size{auto(), units(3)}},
		{[]int64{10, 2}, []size.Size{auto(), units(9), units(3)}},
	} {
		var calls []size.Size
		f := func(s size.Size) (string, int64, bool) {
			calls = append(calls, s)
			return "value", c.numbers[len(calls)-1], true
		}
		if v, ok := Solve(f, auto(), 3, 9); v != "" || ok || !slices.Equal(calls, c.calls) {
			t.Errorf("%d: %q, %t, called with %v", k, v, ok, calls)
		}
	}
}

// An f may itself solve for a size.
func TestNested(t *testing.T) {
	inner := frame{content: 50}
	outer := func(s size.Size) (shape, int64, bool) {
		v, ok := Solve(inner.fit, s, 20, 30)
		return v, v.l[0], ok
	}
	if v, ok := Solve(outer, auto(), 0, 25); v.tried != units(25) || !ok {
		t.Errorf("%v, %t", v, ok)
	}
	if v, ok := Solve(outer, auto(), 0, 12); v.tried != units(20) || !ok {
		t.Errorf("%v, %t", v, ok)
	}
}

// The same question is answered alike, with other questions in between.
func TestAlike(t *testing.T) {
	f := frame{content: 50, edge: 3}
	for range 3 {
		for _, own := range owns() {
			for least := int64(10); least < 15; least++ {
				for most := int64(10); most < 15; most++ {
					v, ok := Solve(f.fit, own, least, most)
					Solve(f.fit, units(13), most, least)
					w, fine := Solve(f.fit, own, least, most)
					if v != w || ok != fine {
						t.Errorf("%v, %d to %d: %v, %t and then %v, %t", own, least, most, v, ok, w, fine)
					}
				}
			}
		}
	}
}
