package scroll

import (
	"bytes"
	"math"
	"slices"
	"testing"
)

// fours and eights have the ends of their ranges, the places where a byte or a sign changes, and numbers whose bytes all differ.
var (
	fours = []uint32{
		0, 1, 0x7f, 0x80, 0xff, 0x100, 258, 0xffff, 0x10000, 0xffffff, 0x1000000,
		0x01020304, 0xf0e0d0c0, math.MaxInt32, math.MaxInt32 + 1, math.MaxUint32 - 1, math.MaxUint32,
	}
	eights = []int64{
		0, 1, -1, 2, -2, 0x7f, 0x80, -0x80, -0x81, 0xff, 0x100, -0x100, 0xffff, 0x10000,
		math.MaxInt32, math.MinInt32, math.MaxUint32, math.MaxUint32 + 1, -math.MaxUint32 - 1,
		1<<53 + 1, -1<<53 - 1, 0x0102030405060708, -0x0102030405060708,
		math.MaxInt64 - 1, math.MaxInt64, math.MinInt64 + 1, math.MinInt64,
	}
)

// digits is n to the base 256, with count digits: P5.1 word by word.
// A negative n stands for n plus 2^64, as two's complement says.
func digits(n int64, count int) []byte {
	l := make([]byte, count)
	for k := count - 1; k >= 0; k-- {
		digit := n % 256
		if digit < 0 {
			digit += 256
		}
		l[k] = byte(digit)
		n = (n - digit) / 256
	}
	return l
}

func checkBytes(t *testing.T, o *Out, want []byte) {
	t.Helper()
	for range 2 {
		if got := o.Bytes(); !bytes.Equal(got, want) {
			t.Fatal("Bytes:", got, "want", want)
		}
	}
}

// checkGood checks all that tells of an In that is not bad, without consuming anything.
func checkGood(t *testing.T, i *In, left int) {
	t.Helper()
	for range 2 {
		if n := i.Left(); n != left {
			t.Fatal("Left:", n, "want", left)
		}
		if i.Bad() {
			t.Fatal("bad with", left, "bytes left")
		}
		if i.Done() != (left == 0) {
			t.Fatal("Done:", i.Done(), "with", left, "bytes left")
		}
	}
}

func checkState(t *testing.T, i *In, bad bool) {
	t.Helper()
	if n := i.Left(); n != 0 {
		t.Fatal("Left:", n)
	}
	if i.Bad() != bad {
		t.Fatal("Bad:", i.Bad())
	}
	if i.Done() {
		t.Fatal("done")
	}
}

// checkGone calls every method of an In that is bad (or nil, if not bad), each after each other one.
func checkGone(t *testing.T, i *In, bad bool) {
	t.Helper()
	checkState(t, i, bad)
	for range 2 {
		if v := i.Byte(); v != 0 {
			t.Fatal("Byte:", v)
		}
		checkState(t, i, bad)
		if v := i.Four(); v != 0 {
			t.Fatal("Four:", v)
		}
		checkState(t, i, bad)
		if v := i.Eight(); v != 0 {
			t.Fatal("Eight:", v)
		}
		checkState(t, i, bad)
		i.Fail()
		checkState(t, i, bad)
	}
}

// methods are the three that consume bytes, with the number of bytes that each requests.
var methods = []struct {
	name string
	size int
	call func(*In) int64
}{
	{"Byte", 1, func(i *In) int64 { return int64(i.Byte()) }},
	{"Four", 4, func(i *In) int64 { return int64(i.Four()) }},
	{"Eight", 8, (*In).Eight},
}

func TestExample(t *testing.T) {
	var o Out
	o.Four(258)
	checkBytes(t, &o, []byte{0, 0, 1, 2})
	i := NewIn([]byte{0, 0, 1, 2})
	if v := i.Four(); v != 258 {
		t.Error("Four:", v)
	}
	checkGood(t, i, 0)
}

func TestZeroOut(t *testing.T) {
	var o Out
	checkBytes(t, &o, nil)
	checkBytes(t, &Out{}, nil)
	checkBytes(t, new(Out), nil)
	o.Byte(0)
	checkBytes(t, &o, []byte{0})
}

func TestNilOut(t *testing.T) {
	var o *Out
	checkBytes(t, o, nil)
	o.Byte(1)
	checkBytes(t, o, nil)
	o.Four(2)
	checkBytes(t, o, nil)
	o.Eight(3)
	checkBytes(t, o, nil)
}

func TestOutByHand(t *testing.T) {
	for _, c := range []struct {
		write func(*Out)
		want  []byte
	}{
		{func(o *Out) { o.Byte(0) }, []byte{0}},
		{func(o *Out) { o.Byte(7) }, []byte{7}},
		{func(o *Out) { o.Byte(255) }, []byte{255}},
		{func(o *Out) { o.Four(0) }, []byte{0, 0, 0, 0}},
		{func(o *Out) { o.Four(1) }, []byte{0, 0, 0, 1}},
		{func(o *Out) { o.Four(0x01020304) }, []byte{1, 2, 3, 4}},
		{func(o *Out) { o.Four(1 << 31) }, []byte{128, 0, 0, 0}},
		{func(o *Out) { o.Four(math.MaxUint32) }, []byte{255, 255, 255, 255}},
		{func(o *Out) { o.Eight(0) }, []byte{0, 0, 0, 0, 0, 0, 0, 0}},
		{func(o *Out) { o.Eight(258) }, []byte{0, 0, 0, 0, 0, 0, 1, 2}},
		{func(o *Out) { o.Eight(0x0102030405060708) }, []byte{1, 2, 3, 4, 5, 6, 7, 8}},
		{func(o *Out) { o.Eight(-1) }, []byte{255, 255, 255, 255, 255, 255, 255, 255}},
		{func(o *Out) { o.Eight(-2) }, []byte{255, 255, 255, 255, 255, 255, 255, 254}},
		{func(o *Out) { o.Eight(-256) }, []byte{255, 255, 255, 255, 255, 255, 255, 0}},
		{func(o *Out) { o.Eight(math.MaxInt64) }, []byte{127, 255, 255, 255, 255, 255, 255, 255}},
		{func(o *Out) { o.Eight(math.MinInt64) }, []byte{128, 0, 0, 0, 0, 0, 0, 0}},
	} {
		var o Out
		c.write(&o)
		checkBytes(t, &o, c.want)
	}
}

// TestOutAppends checks every value against digits, and that it comes after what was there.
func TestOutAppends(t *testing.T) {
	var o Out
	var want []byte
	for v := range 256 {
		o.Byte(byte(v))
		want = append(want, byte(v))
		checkBytes(t, &o, want)
	}
	for _, v := range fours {
		o.Four(v)
		want = append(want, digits(int64(v), 4)...)
		checkBytes(t, &o, want)
	}
	for _, v := range eights {
		o.Eight(v)
		want = append(want, digits(v, 8)...)
		checkBytes(t, &o, want)
		o.Byte(9)
		want = append(want, 9)
		checkBytes(t, &o, want)
	}
}

func TestOutsAreApart(t *testing.T) {
	var a, b Out
	a.Four(1)
	checkBytes(t, &b, nil)
	b.Byte(2)
	a.Byte(3)
	checkBytes(t, &a, []byte{0, 0, 0, 1, 3})
	checkBytes(t, &b, []byte{2})
}

// overwrite fills b and its spare capacity with a value that no test writes there otherwise.
func overwrite(b []byte) {
	b = b[:cap(b)]
	for k := range b {
		b[k] = 0xa5
	}
}

// TestBytesMemory takes Bytes after each appended byte, so that the Out has spare capacity in some of the cases and none in others.
func TestBytesMemory(t *testing.T) {
	var o Out
	var all []byte
	for n := range 70 {
		first, second, kept := o.Bytes(), o.Bytes(), o.Bytes()
		overwrite(first)
		if !bytes.Equal(second, all) {
			t.Fatal("two results share memory:", second, "want", all)
		}
		checkBytes(t, &o, all)
		before := slices.Clone(second[:cap(second)])
		o.Byte(byte(n + 1))
		all = append(all, byte(n+1))
		checkBytes(t, &o, all)
		if !bytes.Equal(second[:cap(second)], before) {
			t.Fatal("Byte has changed an earlier result:", second[:cap(second)], "was", before)
		}
		overwrite(first)
		overwrite(second)
		overwrite(append(kept, 1))
		checkBytes(t, &o, all)
	}
}

func TestInByHand(t *testing.T) {
	i := NewIn([]byte{7, 0, 0, 1, 2, 255, 255, 255, 255, 255, 255, 255, 254, 128, 0, 0, 0, 128, 0, 0, 0, 0, 0, 0, 0, 200})
	checkGood(t, i, 26)
	if v := i.Byte(); v != 7 {
		t.Error("Byte:", v)
	}
	checkGood(t, i, 25)
	if v := i.Four(); v != 258 {
		t.Error("Four:", v)
	}
	checkGood(t, i, 21)
	if v := i.Eight(); v != -2 {
		t.Error("Eight:", v)
	}
	checkGood(t, i, 13)
	if v := i.Four(); v != 1<<31 {
		t.Error("Four:", v)
	}
	checkGood(t, i, 9)
	if v := i.Eight(); v != math.MinInt64 {
		t.Error("Eight:", v)
	}
	checkGood(t, i, 1)
	if v := i.Byte(); v != 200 {
		t.Error("Byte:", v)
	}
	checkGood(t, i, 0)
	i.Byte()
	checkGone(t, i, true)
}

// TestInValues decodes what digits makes of every value, with bytes behind it that must stay.
func TestInValues(t *testing.T) {
	for v := range 256 {
		i := NewIn([]byte{byte(v), 9})
		if got := i.Byte(); got != byte(v) {
			t.Error("Byte:", got, "want", v)
		}
		checkGood(t, i, 1)
	}
	for _, v := range fours {
		i := NewIn(append(digits(int64(v), 4), 9))
		if got := i.Four(); got != v {
			t.Error("Four:", got, "want", v)
		}
		checkGood(t, i, 1)
	}
	for _, v := range eights {
		i := NewIn(append(digits(v, 8), 9))
		if got := i.Eight(); got != v {
			t.Error("Eight:", got, "want", v)
		}
		checkGood(t, i, 1)
	}
}

func TestEmptyIn(t *testing.T) {
	for _, b := range [][]byte{nil, {}, make([]byte, 0, 8), []byte{1, 2, 3}[:0]} {
		checkGood(t, NewIn(b), 0)
		for _, m := range methods {
			i := NewIn(b)
			if v := m.call(i); v != 0 {
				t.Error(m.name, "of no bytes:", v)
			}
			checkGone(t, i, true)
		}
		i := NewIn(b)
		i.Fail()
		checkGone(t, i, true)
	}
}

// TestTooFewBytes leaves each method each number of bytes up to what it requests, also after some are consumed.
// No byte is 0, so that a result made of the bytes that are there would be seen.
func TestTooFewBytes(t *testing.T) {
	for _, m := range methods {
		for left := range m.size + 1 {
			for consumed := range 3 {
				i := NewIn(bytes.Repeat([]byte{255}, consumed+left))
				for range consumed {
					i.Byte()
				}
				checkGood(t, i, left)
				v := m.call(i)
				if left == m.size {
					if v == 0 {
						t.Error(m.name, "of", left, "bytes: 0")
					}
					checkGood(t, i, 0)
					continue
				}
				if v != 0 {
					t.Error(m.name, "of", left, "bytes:", v)
				}
				checkGone(t, i, true)
			}
		}
	}
}

// TestBytesBeyondCapacity checks that an In ends where its argument does, not where the memory of that does.
func TestBytesBeyondCapacity(t *testing.T) {
	whole := bytes.Repeat([]byte{255}, 16)
	for _, m := range methods {
		i := NewIn(whole[:m.size-1])
		if v := m.call(i); v != 0 {
			t.Error(m.name, "has gone beyond its bytes:", v)
		}
		checkGone(t, i, true)
	}
}

func TestFail(t *testing.T) {
	for _, size := range []int{0, 1, 4, 8, 13, 100} {
		for consumed := range min(size+1, 9) {
			i := NewIn(bytes.Repeat([]byte{255}, size))
			for range consumed {
				i.Byte()
			}
			checkGood(t, i, size-consumed)
			i.Fail()
			checkGone(t, i, true)
		}
	}
}

// TestFirstAfterFail has each method as the first one that is called after Fail.
func TestFirstAfterFail(t *testing.T) {
	for _, m := range methods {
		i := NewIn(bytes.Repeat([]byte{255}, 20))
		i.Fail()
		if v := m.call(i); v != 0 {
			t.Error(m.name, "after Fail:", v)
		}
		checkGone(t, i, true)
	}
}

func TestNilIn(t *testing.T) {
	var i *In
	checkGone(t, i, false)
	for _, m := range methods {
		if v := m.call(nil); v != 0 {
			t.Error(m.name, "of a nil In:", v)
		}
	}
}

func TestInsAreApart(t *testing.T) {
	b := []byte{1, 2, 3, 4, 5}
	i, j := NewIn(b), NewIn(b)
	if v := i.Four(); v != 0x01020304 {
		t.Error("Four:", v)
	}
	checkGood(t, j, 5)
	i.Fail()
	checkGone(t, i, true)
	checkGood(t, j, 5)
	if v := j.Byte(); v != 1 {
		t.Error("Byte:", v)
	}
	checkGood(t, j, 4)
	checkGood(t, NewIn(b), 5)
}

// TestNewInMemory checks that the argument stays as it is, with its spare capacity, and that the In does not see later changes of it.
func TestNewInMemory(t *testing.T) {
	want := []byte{1, 2, 3, 4, 5, 6, 7, 8, 9, 10, 11, 12, 13, 14, 15}
	whole := slices.Clone(want)
	i := NewIn(whole[:13])
	i.Byte()
	i.Four()
	i.Eight()
	i.Eight()
	i.Fail()
	if !bytes.Equal(whole, want) {
		t.Fatal("an In has changed its argument:", whole)
	}
	i = NewIn(whole[:13])
	overwrite(whole)
	if v := i.Byte(); v != 1 {
		t.Error("Byte:", v)
	}
	overwrite(whole)
	if v := i.Four(); v != 0x02030405 {
		t.Error("Four:", v)
	}
	if v := i.Eight(); v != 0x060708090a0b0c0d {
		t.Error("Eight:", v)
	}
	checkGood(t, i, 0)
}

// TestInApartFromOut goes on with an Out while an In decodes its bytes.
func TestInApartFromOut(t *testing.T) {
	var o Out
	o.Four(258)
	i := NewIn(o.Bytes())
	o.Byte(9)
	checkGood(t, i, 4)
	if v := i.Four(); v != 258 {
		t.Error("Four:", v)
	}
	checkGood(t, i, 0)
	checkBytes(t, &o, []byte{0, 0, 1, 2, 9})
}

// TestReadBack writes every pair of values between others and reads them back in the same order.
func TestReadBack(t *testing.T) {
	var o Out
	for n, v := range eights {
		for _, w := range fours {
			o.Byte(byte(n))
			o.Four(w)
			o.Eight(v)
		}
	}
	i := NewIn(o.Bytes())
	left := len(eights) * len(fours) * 13
	for n, v := range eights {
		for _, w := range fours {
			checkGood(t, i, left)
			if a, b, c := i.Byte(), i.Four(), i.Eight(); a != byte(n) || b != w || c != v {
				t.Fatal(a, b, c, "want", n, w, v)
			}
			left -= 13
		}
	}
	checkGood(t, i, 0)
	i.Byte()
	checkGone(t, i, true)
}

// TestReadBackAnyOrder writes all orders of up to five calls, with values without a pattern.
func TestReadBackAnyOrder(t *testing.T) {
	orders := [][]int{nil}
	for k := 0; k < len(orders); k++ {
		order := orders[k]
		var o Out
		var want []int64
		seed := uint64(k)
		for _, m := range order {
			seed = seed*6364136223846793005 + 1442695040888963407
			want = append(want, write(&o, m, seed))
		}
		i := NewIn(o.Bytes())
		for at, m := range order {
			if v := methods[m].call(i); v != want[at] {
				t.Fatal(order, "number", at, "got", v, "want", want[at])
			}
		}
		checkGood(t, i, 0)
		for m := range methods {
			if len(order) < 5 {
				orders = append(orders, append(slices.Clone(order), m))
			}
		}
	}
}

// write appends the top bits of seed by the writing method that belongs to methods[m], and returns what is to be read back.
func write(o *Out, m int, seed uint64) int64 {
	switch methods[m].size {
	case 1:
		v := byte(seed >> 56)
		o.Byte(v)
		return int64(v)
	case 4:
		v := uint32(seed >> 32)
		o.Four(v)
		return int64(v)
	}
	o.Eight(int64(seed))
	return int64(seed)
}
