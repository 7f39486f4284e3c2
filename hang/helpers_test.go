package hang

import (
	"math"
	"testing"

	"decoupage/api"
	"decoupage/size"
)

const (
	maxUnit = int64(api.MaxUnit)
	minInt  = int64(math.MinInt64)
	maxInt  = int64(math.MaxInt64)
)

var auto = size.Size{Auto: true}

func units(n int64) size.Size { return size.Size{N: n} }

// beyond are numbers that do not fit, the nearest ones first.
func beyond() []int64 {
	return []int64{maxUnit + 1, -maxUnit - 1, maxUnit + 2, -maxUnit - 2, maxInt - 1, minInt + 1, maxInt, minInt}
}

// box is a box of Around 10 in a holder of 200, with Want 30, Static 20 and Behind 15, without bounds that matter.
func box(left, marginL, wide, marginR, right size.Size) In {
	return In{
		Base: 200, Left: left, MarginL: marginL, Wide: wide, MarginR: marginR, Right: right,
		Around: 10, Want: 30, Static: 20, Behind: 15, Least: -maxUnit, Most: maxUnit,
	}
}

// empty is a box whose other numbers are all 0, without bounds that matter.
func empty(base int64, left, marginL, wide, marginR, right size.Size) In {
	return In{Base: base, Left: left, MarginL: marginL, Wide: wide, MarginR: marginR, Right: right, Least: -maxUnit, Most: maxUnit}
}

// bounded is the same box with these bounds.
func bounded(in In, least, most int64) In {
	in.Least, in.Most = least, most
	return in
}

// around is the same box with these surroundings.
func around(n int64, in In) In {
	in.Around = n
	return in
}

// rtl is the same box in a holder of the other direction.
func rtl(in In) In {
	in.RTL = true
	return in
}

// turned is the same box in a parent of the other direction.
func turned(in In) In {
	in.Turned = true
	return in
}

type question struct {
	name string
	in   In
	want Out
}

// check asks each question, whose answer is true.
func check(t *testing.T, all ...question) {
	t.Helper()
	for _, q := range all {
		if o, ok := Solve(q.in); !ok || o != q.want {
			t.Errorf("%s: %+v, %t instead of %+v", q.name, o, ok, q.want)
		}
	}
}

// checkRTL asks about a box whose answers differ by the direction of the holder, and not by that of the parent.
func checkRTL(t *testing.T, name string, in In, ltr, other Out) {
	t.Helper()
	check(t,
		question{name, in, ltr}, question{name + ", Turned", turned(in), ltr},
		question{name + ", RTL", rtl(in), other}, question{name + ", RTL, Turned", rtl(turned(in)), other})
}

// checkTurned asks about a box whose answers differ by the direction of the parent, and not by that of the holder.
func checkTurned(t *testing.T, name string, in In, ltr, other Out) {
	t.Helper()
	check(t,
		question{name, in, ltr}, question{name + ", RTL", rtl(in), ltr},
		question{name + ", Turned", turned(in), other}, question{name + ", RTL, Turned", rtl(turned(in)), other})
}

// checkAll asks each question in all directions, which have the same answer.
func checkAll(t *testing.T, all ...question) {
	t.Helper()
	for _, q := range all {
		checkRTL(t, q.name, q.in, q.want, q.want)
	}
}

// checkFalse asks a question in all directions: the answer is false, and nothing stands beside that.
func checkFalse(t *testing.T, name string, in In) {
	t.Helper()
	for _, in := range []In{in, rtl(in), turned(in), rtl(turned(in))} {
		checkFalseOnce(t, name, in)
	}
}

// checkFalseOnce asks a question as it is.
func checkFalseOnce(t *testing.T, name string, in In) {
	t.Helper()
	if o, ok := Solve(in); ok || o != (Out{}) {
		t.Errorf("%s: %+v gives %+v, %t", name, in, o, ok)
	}
}
