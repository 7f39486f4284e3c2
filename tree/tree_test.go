package tree

import (
	"bytes"
	"math"
	"reflect"
	"slices"
	"testing"

	"decoupage/api"
	"decoupage/scroll"
	"decoupage/style"
)

func units(n int64) api.Len { return api.Len{Kind: api.Units, N: n} }

// plain is a valid style with nothing special about it.
func plain() api.Style {
	s := api.Style{Shown: true}
	for side := range s.Pad {
		s.Pad[side] = units(0)
	}
	return s
}

// marked are valid styles within the limits that differ from number to number, also in the length of their encodings.
func marked(n int) api.Style {
	s := plain()
	s.Back, s.Position, s.Clip = int64(n), n%4, n%5 == 0
	if n%2 == 1 {
		s.Width = units(int64(n))
	}
	if n%3 == 1 {
		s.HasZ, s.Z = true, -int64(n)
	}
	return s
}

// nodes is the list with these parents, whose styles can be told apart.
func nodes(parents ...int) []api.Node {
	var l []api.Node
	for n, parent := range parents {
		l = append(l, api.Node{S: marked(n), Parent: parent})
	}
	return l
}

// chain has each node as the parent of the next one.
func chain(size int) []api.Node {
	l := make([]api.Node, size)
	for n := range l {
		l[n] = api.Node{S: plain(), Parent: n - 1}
	}
	return l
}

// fan has the first node as the parent of all others.
func fan(size int) []api.Node {
	l := chain(size)
	for n := 1; n < size; n++ {
		l[n].Parent = 0
	}
	return l
}

// sample is a tree with a leaf, a chain, and steps up by none, one, two and three.
func sample() []api.Node { return nodes(-1, 0, 1, 2, 2, 1, 0, 6, 7, 8, 6, 0) }

// ancestors lists the ancestors of node n, from its parent up to the first node.
func ancestors(l []api.Node, n int) []int {
	var up []int
	for at := l[n].Parent; at >= 0; at = l[at].Parent {
		up = append(up, at)
	}
	return up
}

// formedByHand is the definition of a valid list, word by word.
func formedByHand(l []api.Node) bool {
	for n, node := range l {
		if n == 0 && node.Parent != -1 {
			return false
		}
		if n > 0 && node.Parent != n-1 && !slices.Contains(ancestors(l, n-1), node.Parent) {
			return false
		}
		if !style.Formed(node.S) {
			return false
		}
	}
	return len(l) > 0
}

// withinByHand is the definition of the limits, word by word, for a valid list.
func withinByHand(l []api.Node) bool {
	for n, node := range l {
		if 1+len(ancestors(l, n)) > 256 || !style.Within(node.S) {
			return false
		}
	}
	return len(l) <= 65535
}

// wantByHand is the error that Check must return.
func wantByHand(l []api.Node) api.Errno {
	if !formedByHand(l) {
		return api.ErrForm
	}
	if !withinByHand(l) {
		return api.ErrLimit
	}
	return api.OK
}

func four(n int) []byte { return []byte{byte(n >> 24), byte(n >> 16), byte(n >> 8), byte(n)} }

func encodedStyle(s api.Style) []byte {
	var o scroll.Out
	style.Put(&o, s)
	return o.Bytes()
}

// encodedByHand is the encoding of P7.1, word by word, for a valid list.
func encodedByHand(l []api.Node) []byte {
	b := four(len(l))
	for n, node := range l {
		if n > 0 && node.Parent == n-1 {
			b = append(b, four(0)...)
		} else if n > 0 {
			b = append(b, four(1+slices.Index(ancestors(l, n-1), node.Parent))...)
		}
		b = append(b, encodedStyle(node.S)...)
	}
	return b
}

// decodedByHand reads b with a path from the first node to the preceding one, which the steps up make shorter.
func decodedByHand(b []byte) ([]api.Node, bool) {
	i := scroll.NewIn(b)
	count := int(i.Four())
	var l []api.Node
	path := []int{-1}
	for n := range count {
		if n > 0 {
			steps := int(i.Four())
			if steps >= len(path)-1 {
				return nil, false
			}
			path = path[:len(path)-steps]
		}
		l = append(l, api.Node{S: style.Get(i), Parent: path[len(path)-1]})
		if i.Bad() {
			return nil, false
		}
		path = append(path, n)
	}
	return l, i.Done() && count > 0
}

// checkList checks Formed, Check, Encode and Decode of one list, whose error must be want.
func checkList(t *testing.T, name string, l []api.Node, want api.Errno) {
	t.Helper()
	if Formed(l) != (want != api.ErrForm) {
		t.Fatal(name, "Formed:", Formed(l))
	}
	if e := Check(l); e != want {
		t.Fatal(name, "Check:", e, "want", want)
	}
	b, e := Encode(l)
	if want == api.ErrForm {
		if e != api.ErrForm || len(b) != 0 {
			t.Fatal(name, "Encode:", b, e)
		}
		return
	}
	if e != api.OK || !bytes.Equal(b, encodedByHand(l)) {
		t.Fatal(name, "Encode:", e, "with", len(b), "bytes, want", len(encodedByHand(l)))
	}
	checkDecode(t, name, b, l, want)
}

// checkDecode decodes b, which is the encoding of l if want is OK.
func checkDecode(t *testing.T, name string, b []byte, l []api.Node, want api.Errno) {
	t.Helper()
	got, e := Decode(b)
	if e != want {
		t.Fatal(name, "Decode:", e, "want", want)
	}
	if e != api.OK {
		l = nil
	}
	if !slices.Equal(got, l) {
		t.Fatal(name, "Decode:", len(got), "nodes that are not those of the list, which has", len(l))
	}
}

// checkBytes decodes b and holds the result against the definitions.
func checkBytes(t *testing.T, name string, b []byte) api.Errno {
	t.Helper()
	l, ok := decodedByHand(b)
	want := api.OK
	if !ok {
		want = api.ErrForm
	} else if !withinByHand(l) {
		want = api.ErrLimit
	}
	if ok && !bytes.Equal(encodedByHand(l), b) {
		t.Fatal(name, "not the encoding of what it is read as")
	}
	checkDecode(t, name, b, l, want)
	return want
}

func TestExample(t *testing.T) {
	for _, l := range [][]api.Node{nil, {}, make([]api.Node, 0, 3), sample()[:0]} {
		checkList(t, "no nodes", l, api.ErrForm)
	}
}

func TestOrdinary(t *testing.T) {
	for _, parents := range [][]int{
		{-1}, {-1, 0}, {-1, 0, 0}, {-1, 0, 1}, {-1, 0, 1, 0}, {-1, 0, 1, 1, 0, 4, 4, 0}, {-1, 0, 1, 2, 3, 4, 2, 6, 1, 0},
	} {
		checkList(t, "ordinary", nodes(parents...), api.OK)
	}
	checkList(t, "sample", sample(), api.OK)
}

// TestByHand has each byte of an encoding written out.
func TestByHand(t *testing.T) {
	pad := []byte{1, 0, 0, 0, 0, 0, 0, 0, 0}
	s := slices.Concat([]byte{1}, make([]byte, 14), pad, pad, pad, pad, make([]byte, 6*8))
	wide := slices.Concat([]byte{1, 0, 0, 0, 0, 1, 0, 0, 0, 0, 0, 0, 1, 2}, make([]byte, 9), pad, pad, pad, pad, make([]byte, 6*8))
	l := fan(1)
	want := slices.Concat([]byte{0, 0, 0, 1}, s)
	for _, next := range []struct {
		parent int
		steps  byte
	}{{0, 0}, {1, 0}, {2, 0}, {1, 2}, {1, 1}, {0, 2}, {0, 1}, {7, 0}, {0, 2}} {
		node := api.Node{S: plain(), Parent: next.parent}
		node.S.Width = units(258)
		l = append(l, node)
		want[3]++
		want = slices.Concat(want, []byte{0, 0, 0, next.steps}, wide)
		if b, e := Encode(l); e != api.OK || !bytes.Equal(b, want) {
			t.Fatal(len(l), "nodes:", e, b, "want", want)
		}
		checkDecode(t, "by hand", want, l, api.OK)
	}
}

func TestFirstParent(t *testing.T) {
	for _, parent := range []int{0, 1, 2, -2, -3, 1 << 32, -1 << 32, 1<<32 - 1, math.MaxInt, math.MinInt} {
		for _, l := range [][]api.Node{nodes(-1), sample()} {
			l[0].Parent = parent
			checkList(t, "first parent", l, api.ErrForm)
		}
	}
}

// TestEveryParent gives each node of a tree each parent, negative ones, itself and what is behind it among them.
func TestEveryParent(t *testing.T) {
	for n := 1; n < len(sample()); n++ {
		for parent := -3; parent < len(sample())+2; parent++ {
			l := sample()
			l[n].Parent = parent
			if parent < 0 || parent >= n {
				checkList(t, "parent", l, api.ErrForm)
				checkList(t, "parent of the last node", l[:n+1], api.ErrForm)
				continue
			}
			checkList(t, "parent of the last node", l[:n+1], wantByHand(l[:n+1]))
			checkList(t, "parent", l, wantByHand(l))
		}
		for _, parent := range []int{1 << 32, -1 << 32, 1<<32 + n - 1, math.MaxInt, math.MinInt, math.MinInt + 1} {
			l := sample()
			l[n].Parent = parent
			checkList(t, "strange parent", l, api.ErrForm)
		}
	}
}

// TestNeitherBeforeNorAncestor has parents that are ahead of the node, but in a branch that has ended.
func TestNeitherBeforeNorAncestor(t *testing.T) {
	for _, parents := range [][]int{{-1, 0, 0, 1}, {-1, 0, 1, 0, 1}, {-1, 0, 1, 0, 2}, {-1, 0, 1, 1, 2}, {-1, 0, 1, 0, 3, 2}, {-1, 0, 1, 2, 0, 1}, {-1, 0, 0, 0, 2}} {
		checkList(t, "parent in another branch", nodes(parents...), api.ErrForm)
		parents[len(parents)-1] = 0
		checkList(t, "parent at the top", nodes(parents...), api.OK)
	}
}

// TestAllShortLists has all lists of up to five parents, from one that is too small to one that is too large.
func TestAllShortLists(t *testing.T) {
	valid := make([]int, 6)
	var extend func(l []api.Node)
	extend = func(l []api.Node) {
		want := wantByHand(l)
		checkList(t, "short list", l, want)
		if want == api.OK {
			valid[len(l)]++
		}
		if len(l) == 5 {
			return
		}
		for parent := -2; parent <= 5; parent++ {
			extend(append(slices.Clone(l), api.Node{S: marked(len(l)), Parent: parent}))
		}
	}
	extend(nil)
	// The number of ordered trees of n nodes.
	if want := []int{0, 1, 1, 2, 5, 14}; !slices.Equal(valid, want) {
		t.Error("valid lists:", valid, "want", want)
	}
}

// broken are styles that are not valid, the last of them beyond the limits as well.
func broken() []api.Style {
	l := []api.Style{{}, plain(), plain(), plain(), plain(), plain()}
	l[1].Position = 4
	l[2].Z = 1
	l[3].Border[3] = -1
	l[4].Width = api.Len{N: 1}
	l[5].Pad[2], l[5].Back = api.Len{}, api.MaxColor+1
	return l
}

// beyond are valid styles that are not within the limits, each for another reason.
func beyond() []api.Style {
	l := []api.Style{plain(), plain(), plain(), plain(), plain(), plain()}
	l[0].Width = units(api.MaxLen + 1)
	l[1].Margin[1] = api.Len{Kind: api.Part, N: -api.MaxPart - 1}
	l[2].Border[0] = api.MaxLen + 1
	l[3].HasZ, l[3].Z = true, api.MaxZ+1
	l[4].Back = api.MaxColor + 1
	l[5].Line = math.MaxInt64
	return l
}

func TestStyleAtEachPlace(t *testing.T) {
	for _, base := range [][]api.Node{nodes(-1), sample()} {
		for n := range base {
			for _, s := range broken() {
				l := slices.Clone(base)
				l[n].S = s
				checkList(t, "invalid style", l, api.ErrForm)
			}
			for _, s := range beyond() {
				l := slices.Clone(base)
				l[n].S = s
				checkList(t, "style beyond the limits", l, api.ErrLimit)
			}
		}
	}
	limit := sample()
	for n := range limit {
		limit[n].S.Width, limit[n].S.Back, limit[n].S.HasZ, limit[n].S.Z = units(api.MaxLen), api.MaxColor, true, -api.MaxZ
	}
	checkList(t, "styles at the limits", limit, api.OK)
}

func TestManyNodes(t *testing.T) {
	// Branches of three nodes each are not deep, however many of them there are.
	threes := fan(65535)
	for n := range threes {
		if n%3 != 1 {
			threes[n].Parent = n - 1
		}
	}
	for _, l := range [][]api.Node{fan(65535), threes} {
		checkList(t, "MaxNodes", l, api.OK)
		l = append(l, api.Node{S: plain()})
		checkList(t, "one more than MaxNodes", l, api.ErrLimit)
		l = append(l, fan(1000)[1:]...)
		checkList(t, "more than MaxNodes", l, api.ErrLimit)
	}
}

func TestDepth(t *testing.T) {
	for _, size := range []int{1, 2, 255, 256} {
		checkList(t, "chain", chain(size), api.OK)
	}
	for _, size := range []int{257, 258, 1000} {
		checkList(t, "long chain", chain(size), api.ErrLimit)
	}
	deep := api.Node{S: plain(), Parent: 255}
	shallow := api.Node{S: plain(), Parent: 0}
	beside := api.Node{S: plain(), Parent: 254}
	for _, c := range []struct {
		more []api.Node
		want api.Errno
	}{
		{[]api.Node{shallow}, api.OK},
		{[]api.Node{beside, beside, shallow, shallow}, api.OK},
		{[]api.Node{deep}, api.ErrLimit},
		{[]api.Node{deep, shallow}, api.ErrLimit},
		{[]api.Node{deep, deep, beside, shallow}, api.ErrLimit},
	} {
		checkList(t, "chain and more", append(chain(256), c.more...), c.want)
	}
	// A second chain below the first node ends at the depth of one node less.
	two := chain(512)
	two[256].Parent = 0
	checkList(t, "two chains", two[:511], api.OK)
	checkList(t, "two chains, one too long", two, api.ErrLimit)
}

// TestVeryDeep has steps up that need three bytes, and so many nodes that a walk to the top for each would not end soon.
func TestVeryDeep(t *testing.T) {
	l := chain(70000)
	for _, parent := range []int{69999, 0} {
		l = append(l, api.Node{S: plain(), Parent: parent})
	}
	if !Formed(l) || Check(l) != api.ErrLimit {
		t.Error("Formed:", Formed(l), "Check:", Check(l))
	}
	b, e := Encode(l)
	s := encodedStyle(plain())
	tail := slices.Concat(four(0), s, four(70000), s)
	if e != api.OK || len(b) != 4+len(l)*(4+len(s))-4 || !bytes.HasPrefix(b, four(70002)) || !bytes.HasSuffix(b, tail) {
		t.Error("Encode:", e, len(b))
	}
	checkDecode(t, "very deep", b, nil, api.ErrLimit)
	steps := len(b) - len(s) - 4
	for _, n := range []int{0, 1, 65536, 70000} {
		copy(b[steps:], four(n))
		checkDecode(t, "up a very deep chain", b, nil, api.ErrLimit)
	}
	for _, n := range []int{70001, 70002, 70000 + 65536, 1 << 24, 1 << 31, 1<<32 - 1} {
		copy(b[steps:], four(n))
		checkDecode(t, "above a very deep chain", b, nil, api.ErrForm)
	}
}

// TestNeitherValidNorWithin breaks the limits ahead of the form: the form counts first.
func TestNeitherValidNorWithin(t *testing.T) {
	many, deep := fan(65536), chain(300)
	for _, base := range [][]api.Node{many, deep} {
		checkList(t, "beyond the limits", base, api.ErrLimit)
		last := len(base) - 1
		for _, parent := range []int{-1, -2, last, last + 1} {
			l := slices.Clone(base)
			l[last].Parent = parent
			checkList(t, "beyond, with a parent that is none", l, api.ErrForm)
		}
		for _, n := range []int{0, 1, last} {
			l := slices.Clone(base)
			l[n].S = api.Style{}
			checkList(t, "beyond, with an invalid style", l, api.ErrForm)
		}
		b := encodedByHand(base)
		checkDecode(t, "beyond, too short", b[:len(b)-1], nil, api.ErrForm)
		checkDecode(t, "beyond, too long", append(b, 0), nil, api.ErrForm)
		checkDecode(t, "beyond, one node missing", slices.Concat(four(last+2), b[4:]), nil, api.ErrForm)
		checkDecode(t, "beyond, one node left", slices.Concat(four(last), b[4:]), nil, api.ErrForm)
	}
	for _, s := range beyond() {
		l := nodes(-1, 0, 1)
		l[0].S, l[2].S = s, api.Style{}
		checkList(t, "style beyond the limits ahead of an invalid one", l, api.ErrForm)
		l[2].S, l[2].Parent = plain(), 2
		checkList(t, "style beyond the limits ahead of a parent that is none", l, api.ErrForm)
		l[2].Parent = 0
		b := encodedByHand(l)
		checkDecode(t, "style beyond the limits", b, nil, api.ErrLimit)
		checkDecode(t, "style beyond the limits, too short", b[:len(b)-1], nil, api.ErrForm)
		checkDecode(t, "style beyond the limits, too long", append(b, 7), nil, api.ErrForm)
	}
}

// TestEachNumberOfSteps adds one node to a chain, at each number of steps up from its end and at some that lead above its first node.
func TestEachNumberOfSteps(t *testing.T) {
	for _, size := range []int{1, 2, 3, 255} {
		base := chain(size)
		head := slices.Concat(four(size+1), encodedByHand(base)[4:])
		s := encodedStyle(marked(7))
		for steps := range size {
			l := append(slices.Clone(base), api.Node{S: marked(7), Parent: size - 1 - steps})
			b := slices.Concat(head, four(steps), s)
			checkList(t, "steps up", l, api.OK)
			checkDecode(t, "steps up", b, l, api.OK)
		}
		for _, steps := range []int{size, size + 1, size + 2, 255, 256, 1 << 16, 1<<31 - 1, 1 << 31, 1<<32 - size, 1<<32 - 1} {
			checkDecode(t, "steps above the first node", slices.Concat(head, four(steps), s), nil, api.ErrForm)
		}
	}
}

// TestAllShortEncodings has all trees of up to four nodes by their steps, with those that lead above the first node.
func TestAllShortEncodings(t *testing.T) {
	decoded := make([]int, 5)
	var extend func(count int, b []byte)
	extend = func(count int, b []byte) {
		if checkBytes(t, "short encoding", slices.Concat(four(count), b)) == api.OK {
			decoded[count]++
		}
		for _, steps := range []int{0, 1, 2, 3, 4, 256, 1 << 31, 1<<32 - 1} {
			if count < 4 {
				extend(count+1, slices.Concat(b, four(steps), encodedStyle(marked(count))))
			}
		}
	}
	extend(1, encodedStyle(marked(0)))
	if want := []int{0, 1, 1, 2, 5}; !slices.Equal(decoded, want) {
		t.Error("encodings of trees:", decoded, "want", want)
	}
}

func TestCount(t *testing.T) {
	for _, l := range [][]api.Node{nodes(-1), nodes(-1, 0), sample()} {
		rest := encodedByHand(l)[4:]
		n := len(l)
		for _, count := range []int{
			0, 1, 2, n - 1, n, n + 1, n + 2, n + 256, n + 65536, n << 8, n << 24,
			255, 256, 65535, 65536, 1 << 31, 1<<32 - 2, 1<<32 - 1,
		} {
			want := api.ErrForm
			if count == n {
				want = api.OK
			}
			checkDecode(t, "count", slices.Concat(four(count), rest), l, want)
		}
		checkDecode(t, "no count", rest, nil, api.ErrForm)
	}
	for _, count := range []int{0, 1, 2, 65535, 1<<32 - 1} {
		checkDecode(t, "a count alone", four(count), nil, api.ErrForm)
		checkDecode(t, "a count and one byte", append(four(count), 0), nil, api.ErrForm)
		checkDecode(t, "a count and no style", append(four(count), make([]byte, 500)...), nil, api.ErrForm)
	}
}

func TestDecodeTooShort(t *testing.T) {
	for _, l := range [][]api.Node{nodes(-1), sample()} {
		b := encodedByHand(l)
		for size := range b {
			checkDecode(t, "too short", b[:size], nil, api.ErrForm)
		}
		checkDecode(t, "whole", b, l, api.OK)
	}
	for _, b := range [][]byte{nil, {}, make([]byte, 0, 8), encodedByHand(sample())[:0]} {
		checkDecode(t, "no bytes", b, nil, api.ErrForm)
	}
}

func TestDecodeTooLong(t *testing.T) {
	for _, l := range [][]api.Node{nodes(-1), sample()} {
		b := encodedByHand(l)
		node := slices.Concat(four(0), encodedStyle(plain()))
		for _, behind := range [][]byte{{0}, {1}, {255}, four(0), make([]byte, 100), node, b} {
			checkDecode(t, "too long", slices.Concat(b, behind), nil, api.ErrForm)
		}
	}
}

// TestDecodeEveryByte changes each byte of an encoding to each other value.
func TestDecodeEveryByte(t *testing.T) {
	whole := encodedByHand(nodes(-1, 0, 0))
	seen := make([]int, api.ErrLimit+1)
	for at := range whole {
		for value := range 256 {
			b := slices.Clone(whole)
			b[at] = byte(value)
			seen[checkBytes(t, "byte changed", b)]++
		}
	}
	if seen[api.OK] == 0 || seen[api.ErrForm] == 0 || seen[api.ErrLimit] == 0 {
		t.Error("not every outcome:", seen)
	}
}

// TestDecodeInvalidStyle breaks the style of each node in the bytes.
func TestDecodeInvalidStyle(t *testing.T) {
	for n := range sample() {
		l := sample()
		at := len(encodedByHand(l[:n+1])) - len(encodedStyle(l[n].S))
		whole := encodedByHand(l)
		b := slices.Clone(whole)
		b[at] |= 64
		checkDecode(t, "a bit without a meaning", b, nil, api.ErrForm)
		b = slices.Clone(whole)
		b[at+1] = 3
		checkDecode(t, "a kind that does not exist", b, nil, api.ErrForm)
		end := len(encodedByHand(l[:n+1]))
		b = slices.Clone(whole)
		b[end-1-7] = 128
		checkDecode(t, "a negative Line", b, nil, api.ErrForm)
		b[end-1-7] = 127
		checkDecode(t, "a great Line", b, nil, api.ErrLimit)
	}
}

// leaves are all numbers and flags of a node, those of its style among them.
func leaves(v reflect.Value) []reflect.Value {
	var l []reflect.Value
	switch v.Kind() {
	case reflect.Struct:
		for n := range v.NumField() {
			l = append(l, leaves(v.Field(n))...)
		}
	case reflect.Array:
		for n := range v.Len() {
			l = append(l, leaves(v.Index(n))...)
		}
	default:
		l = append(l, v)
	}
	return l
}

// changed is the node with another value in one of its leaves.
func changed(node api.Node, leaf int) api.Node {
	v := leaves(reflect.ValueOf(&node).Elem())[leaf]
	if v.Kind() == reflect.Bool {
		v.SetBool(!v.Bool())
	} else {
		v.SetInt(v.Int() ^ 1)
	}
	return node
}

func checkSame(t *testing.T, name string, a, b []api.Node, want bool) {
	t.Helper()
	if Same(a, b) != want || Same(b, a) != want {
		t.Fatal(name, "Same:", Same(a, b), Same(b, a), "want", want)
	}
}

func TestSameFields(t *testing.T) {
	count := len(leaves(reflect.ValueOf(api.Node{})))
	if count != 49 {
		t.Error("fields of a node:", count)
	}
	for _, l := range [][]api.Node{nodes(-1), sample(), make([]api.Node, 3)} {
		checkSame(t, "a copy", l, slices.Clone(l), true)
		checkSame(t, "itself", l, l, true)
		for n := range l {
			for leaf := range count {
				other := slices.Clone(l)
				other[n] = changed(l[n], leaf)
				checkSame(t, "one field", l, other, false)
				checkSame(t, "the same change", other, slices.Clone(other), true)
			}
		}
	}
}

func TestSameLengths(t *testing.T) {
	l := append(sample(), api.Node{})
	for n := range len(l) + 1 {
		for m := range len(l) + 1 {
			checkSame(t, "beginnings of one list", l[:n], slices.Clone(l[:m]), n == m)
		}
		checkSame(t, "no nodes", nil, l[:n], n == 0)
		checkSame(t, "no nodes", []api.Node{}, l[:n], n == 0)
		checkSame(t, "ends of one list", l[n:], l, n == 0)
	}
	checkSame(t, "nil", nil, nil, true)
	checkSame(t, "order", nodes(-1, 0, 0), []api.Node{nodes(-1)[0], nodes(-1, 0, 0)[2], nodes(-1, 0)[1]}, false)
}

// TestArgumentsStay gives each function a part of a list, so that a change of the spare capacity would be seen.
func TestArgumentsStay(t *testing.T) {
	whole := append(sample(), api.Node{}, api.Node{S: plain(), Parent: 5})
	before := slices.Clone(whole)
	for n := range len(whole) + 1 {
		Formed(whole[:n])
		Check(whole[:n])
		Same(whole[:n], whole[:len(whole)-n])
		if b, _ := Encode(whole[:n]); len(b) > 0 {
			overwrite(b)
		}
		if !slices.Equal(whole, before) {
			t.Fatal("a list of", n, "nodes has changed")
		}
	}
	all := append(encodedByHand(sample()), 1, 2, 3)
	bytesBefore := slices.Clone(all)
	for size := range len(all) + 1 {
		l, _ := Decode(all[:size])
		l = l[:cap(l)]
		for n := range l {
			l[n] = api.Node{}
		}
		if !bytes.Equal(all, bytesBefore) {
			t.Fatal("bytes have changed at size", size)
		}
	}
}

// overwrite fills b and its spare capacity.
func overwrite(b []byte) {
	b = b[:cap(b)]
	for k := range b {
		b[k] = 0xa5
	}
}

// TestResultsAreApart checks that results share no memory with arguments or with each other.
func TestResultsAreApart(t *testing.T) {
	l := sample()
	want := encodedByHand(l)
	first, _ := Encode(l)
	second, _ := Encode(l)
	for n := range l {
		l[n] = api.Node{}
	}
	overwrite(append(first, 1))
	overwrite(first)
	if !bytes.Equal(second, want) {
		t.Error("Encode: a result has changed")
	}
	one, _ := Decode(second)
	two, _ := Decode(second)
	overwrite(second)
	one = one[:cap(one)]
	for n := range one {
		one[n] = api.Node{}
	}
	if !slices.Equal(two, sample()) {
		t.Error("Decode: a result has changed")
	}
}

// draw is a fixed rule that gives numbers without a pattern.
type draw uint64

func (d *draw) below(n int) int {
	*d = *d*6364136223846793005 + 1442695040888963407
	return int(uint64(*d) >> 33 % uint64(n))
}

// list is a tree whose parents are drawn from what may be one, with now and then a fault.
func (d *draw) list() []api.Node {
	l := nodes(-1)
	size := 1 + d.below(60)
	for n := 1; n < size; n++ {
		parent := n - 1
		for d.below(3) == 0 && parent > 0 {
			parent = l[parent].Parent
		}
		l = append(l, api.Node{S: marked(d.below(1000)), Parent: parent})
	}
	at := d.below(len(l))
	switch d.below(6) {
	case 0:
		l[at].S = broken()[d.below(len(broken()))]
	case 1:
		l[at].S = beyond()[d.below(len(beyond()))]
	case 2:
		l[at].Parent = d.below(len(l)+2) - 2
	}
	return l
}

// TestReadBack encodes trees without a pattern and decodes them again, also with one byte changed.
func TestReadBack(t *testing.T) {
	d := draw(7)
	seen := make([]int, api.ErrLimit+1)
	for range 3000 {
		l := d.list()
		want := wantByHand(l)
		seen[want]++
		checkList(t, "drawn", l, want)
		if want == api.ErrForm {
			continue
		}
		b := encodedByHand(l)
		b[d.below(len(b))] = byte(d.below(256))
		checkBytes(t, "drawn, with a byte changed", b)
	}
	if slices.Min([]int{seen[api.OK], seen[api.ErrForm], seen[api.ErrLimit]}) < 100 {
		t.Error("not every outcome:", seen)
	}
}
