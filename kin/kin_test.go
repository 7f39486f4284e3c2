package kin

import (
	"math"
	"reflect"
	"slices"
	"testing"

	"decoupage/api"
	"decoupage/tree"
)

func units(n int64) api.Len { return api.Len{Kind: api.Units, N: n} }

// plain is a valid style with nothing special about it.
func plain() api.Style {
	s := api.Style{Shown: true}
	for side := range s.Pad {
		s.Pad[side] = units(0)
	}
	return s
}

// nodes is the list with these parents, all shown and static, whose styles can be told apart.
func nodes(parents ...int) []api.Node {
	var l []api.Node
	for n, parent := range parents {
		node := api.Node{S: plain(), Parent: parent}
		node.S.Back = int64(n)
		l = append(l, node)
	}
	return l
}

// chain has each node as the parent of the next one.
func chain(size int) []api.Node {
	parents := make([]int, size)
	for n := range parents {
		parents[n] = n - 1
	}
	return nodes(parents...)
}

// fan has the first node as the parent of all others.
func fan(size int) []api.Node {
	l := chain(size)
	for n := 1; n < size; n++ {
		l[n].Parent = 0
	}
	return l
}

// sample is a tree with leaves and with branches that end at different depths.
func sample() []api.Node { return nodes(-1, 0, 1, 2, 2, 1, 0, 6, 7, 8, 6, 0) }

// strange are indices that are far from being nodes, among them some that lose their upper bits as 32-bit numbers.
func strange() []int {
	return []int{math.MinInt, math.MinInt + 1, -1 << 32, -1 << 31, 1 << 31, 1 << 32, 1<<32 + 1, math.MaxInt - 1, math.MaxInt}
}

// around are all nodes of a list of this size, and indices that are not.
func around(size int) []int {
	l := strange()
	for n := -3; n < size+3; n++ {
		l = append(l, n)
	}
	return l
}

// answers is what a Kin says of one index.
type answers struct {
	style         api.Style
	parent        int
	kids, flow    []int
	up            []int
	end, deep     int
	made, out     bool
	below, behind []int // Those a for which Below(a, n) is true, and those m for which Below(n, m) is.
}

// nothing is what a Kin says of an index that is not a node.
func nothing() answers { return answers{parent: -1} }

func (a answers) same(b answers) bool {
	return a.style == b.style && a.parent == b.parent && a.end == b.end && a.deep == b.deep && a.made == b.made && a.out == b.out &&
		slices.Equal(a.kids, b.kids) && slices.Equal(a.flow, b.flow) && slices.Equal(a.up, b.up) &&
		slices.Equal(a.below, b.below) && slices.Equal(a.behind, b.behind)
}

// ask asks k everything about n. In questions of two indices the other one is each of among.
func ask(k *Kin, n int, among []int) answers {
	a := answers{
		style: k.Style(n), parent: k.Parent(n), kids: k.Kids(n), flow: k.Flow(n), up: k.Up(n),
		end: k.End(n), deep: k.Deep(n), made: k.Made(n), out: k.Out(n),
	}
	for _, m := range among {
		if k.Below(m, n) {
			a.below = append(a.below, m)
		}
		if k.Below(n, m) {
			a.behind = append(a.behind, m)
		}
	}
	return a
}

// The functions whose names end in ByHand are the chapter's definitions, word by word. They take a list that is a tree.

func upByHand(l []api.Node, n int) []int {
	var up []int
	for at := l[n].Parent; at != -1; at = l[at].Parent {
		up = append(up, at)
	}
	return up
}

func belowByHand(l []api.Node, a, n int) bool { return n == a || slices.Contains(upByHand(l, n), a) }

func madeByHand(l []api.Node, n int) bool {
	for _, a := range upByHand(l, n) {
		if !l[a].S.Shown {
			return false
		}
	}
	return l[n].S.Shown
}

func outByHand(l []api.Node, n int) bool {
	return madeByHand(l, n) && n != 0 && (l[n].S.Position == api.Absolute || l[n].S.Position == api.Fixed)
}

func inFlowByHand(l []api.Node, n int) bool { return madeByHand(l, n) && !outByHand(l, n) }

func kidsByHand(l []api.Node, n int) []int {
	var kids []int
	for m := range l {
		if l[m].Parent == n {
			kids = append(kids, m)
		}
	}
	return kids
}

func endByHand(l []api.Node, n int) int {
	last := n
	for m := range l {
		if belowByHand(l, n, m) {
			last = m
		}
	}
	return last + 1
}

func answersByHand(l []api.Node, n int) answers {
	if n < 0 || n >= len(l) {
		return nothing()
	}
	a := answers{
		style: l[n].S, parent: l[n].Parent, kids: kidsByHand(l, n), up: upByHand(l, n),
		end: endByHand(l, n), deep: 1 + len(upByHand(l, n)), made: madeByHand(l, n), out: outByHand(l, n),
	}
	for _, kid := range a.kids {
		if inFlowByHand(l, kid) {
			a.flow = append(a.flow, kid)
		}
	}
	for m := range l {
		if belowByHand(l, m, n) {
			a.below = append(a.below, m)
		}
		if belowByHand(l, n, m) {
			a.behind = append(a.behind, m)
		}
	}
	return a
}

// of is the Kin of a list that has one.
func of(t *testing.T, name string, l []api.Node) *Kin {
	t.Helper()
	k, e := Of(l)
	if e != api.OK || k == nil {
		t.Fatal(name, "Of:", k, e)
	}
	return k
}

// checkKin holds all answers of k against the definitions.
func checkKin(t *testing.T, name string, k *Kin, l []api.Node) {
	t.Helper()
	if k.Len() != len(l) {
		t.Fatal(name, "Len:", k.Len(), "want", len(l))
	}
	all := around(len(l))
	for _, n := range all {
		if got, want := ask(k, n, all), answersByHand(l, n); !got.same(want) {
			t.Fatalf("%s: of %d\n%+v\nwant\n%+v\nin %+v", name, n, got, want, l)
		}
	}
}

func checkTree(t *testing.T, name string, l []api.Node) {
	t.Helper()
	checkKin(t, name, of(t, name, l), l)
}

func checkError(t *testing.T, name string, l []api.Node, want api.Errno) {
	t.Helper()
	if k, e := Of(l); k != nil || e != want {
		t.Fatal(name, "Of:", k, e, "want", want)
	}
}

func checkList(t *testing.T, name string, got []int, want ...int) {
	t.Helper()
	if !slices.Equal(got, want) {
		t.Error(name, got, "want", want)
	}
}

func TestExample(t *testing.T) {
	k := of(t, "one node", nodes(-1))
	checkList(t, "Kids:", k.Kids(0))
	if k.End(0) != 1 {
		t.Error("End:", k.End(0))
	}
	checkTree(t, "one node", nodes(-1))
}

// TestByHand has all answers for one tree written out.
func TestByHand(t *testing.T) {
	l := nodes(-1, 0, 1, 1, 0, 4, 5, 0)
	l[0].S.Position = api.Fixed
	l[2].S.Position = api.Relative
	l[3].S.Position = api.Absolute
	l[4].S.Shown = false
	l[5].S.Position = api.Absolute
	l[7].S.Position = api.Fixed
	k := of(t, "by hand", l)
	if k.Len() != 8 {
		t.Error("Len:", k.Len())
	}
	want := []answers{
		{parent: -1, kids: []int{1, 4, 7}, flow: []int{1}, end: 8, deep: 1, made: true, below: []int{0}, behind: []int{0, 1, 2, 3, 4, 5, 6, 7}},
		{parent: 0, kids: []int{2, 3}, flow: []int{2}, up: []int{0}, end: 4, deep: 2, made: true, below: []int{0, 1}, behind: []int{1, 2, 3}},
		{parent: 1, up: []int{1, 0}, end: 3, deep: 3, made: true, below: []int{0, 1, 2}, behind: []int{2}},
		{parent: 1, up: []int{1, 0}, end: 4, deep: 3, made: true, out: true, below: []int{0, 1, 3}, behind: []int{3}},
		{parent: 0, kids: []int{5}, up: []int{0}, end: 7, deep: 2, below: []int{0, 4}, behind: []int{4, 5, 6}},
		{parent: 4, kids: []int{6}, up: []int{4, 0}, end: 7, deep: 3, below: []int{0, 4, 5}, behind: []int{5, 6}},
		{parent: 5, up: []int{5, 4, 0}, end: 7, deep: 4, below: []int{0, 4, 5, 6}, behind: []int{6}},
		{parent: 0, up: []int{0}, end: 8, deep: 2, made: true, out: true, below: []int{0, 7}, behind: []int{7}},
	}
	for n := range want {
		want[n].style = l[n].S
		if got := ask(k, n, around(8)); !got.same(want[n]) {
			t.Errorf("of %d\n%+v\nwant\n%+v", n, got, want[n])
		}
	}
	checkKin(t, "by hand", k, l)
}

func TestNoNodes(t *testing.T) {
	for _, l := range [][]api.Node{nil, {}, make([]api.Node, 0, 3), sample()[:0]} {
		checkError(t, "no nodes", l, api.ErrForm)
	}
}

// TestNoTree gives each node of a tree each parent, negative ones, itself and what is behind it among them.
func TestNoTree(t *testing.T) {
	trees := 0
	for n := range sample() {
		for _, parent := range around(len(sample())) {
			l := sample()
			l[n].Parent = parent
			want := tree.Check(l)
			if want == api.OK {
				trees++
				checkTree(t, "another parent", l)
				continue
			}
			checkError(t, "parent", l, want)
		}
	}
	if trees < len(sample()) {
		t.Error("trees:", trees)
	}
	for _, parents := range [][]int{{0}, {-2}, {-1, -1}, {-1, 1}, {-1, 0, 0, 1}, {-1, 0, 1, 0, 2}, {-1, 0, 3, 0}} {
		checkError(t, "no tree", nodes(parents...), api.ErrForm)
	}
}

func TestStyleErrors(t *testing.T) {
	for n := range sample() {
		l := sample()
		l[n].S = api.Style{}
		checkError(t, "auto Pad", l, api.ErrForm)
		for _, position := range []int{-1, 4, math.MinInt, math.MaxInt} {
			l = sample()
			l[n].S.Position = position
			checkError(t, "Position", l, api.ErrForm)
		}
		l = sample()
		l[n].S.Width = units(api.MaxLen)
		checkTree(t, "great Width", l)
		l[n].S.Width.N++
		checkError(t, "too great a Width", l, api.ErrLimit)
		l[n].S.Shown = false
		checkError(t, "too great a Width, not shown", l, api.ErrLimit)
		l[n].S.Pad[2] = api.Len{}
		checkError(t, "too great a Width and auto Pad", l, api.ErrForm)
	}
}

// TestNeitherValidNorWithin breaks the limits ahead of the form: the form counts first.
func TestNeitherValidNorWithin(t *testing.T) {
	style := sample()
	style[0].S.Back = api.MaxColor + 1
	for _, base := range [][]api.Node{style, fan(api.MaxNodes + 1), chain(api.MaxDepth + 1)} {
		checkError(t, "beyond the limits", base, api.ErrLimit)
		last := len(base) - 1
		for _, parent := range []int{-1, -2, last, last + 1} {
			l := slices.Clone(base)
			l[last].Parent = parent
			checkError(t, "beyond, with a parent that is none", l, api.ErrForm)
		}
		l := slices.Clone(base)
		l[last].S = api.Style{}
		checkError(t, "beyond, with an invalid style", l, api.ErrForm)
	}
}

func TestDepth(t *testing.T) {
	l := chain(api.MaxDepth)
	checkTree(t, "MaxDepth", l)
	k := of(t, "MaxDepth", l)
	if k.Deep(255) != 256 || len(k.Up(255)) != 255 || k.End(255) != 256 || k.End(0) != 256 || !k.Below(0, 255) || k.Below(255, 0) {
		t.Error("the last node:", k.Deep(255), k.Up(255), k.End(255))
	}
	checkError(t, "one more than MaxDepth", chain(api.MaxDepth+1), api.ErrLimit)
	// A second chain below the first node ends at the depth of one node less.
	two := chain(511)
	two[256].Parent = 0
	k = of(t, "two chains", two)
	if k.Deep(255) != 256 || k.Deep(256) != 2 || k.Deep(510) != 256 || k.End(1) != 256 || k.End(256) != 511 || k.Below(255, 256) {
		t.Error("two chains:", k.Deep(255), k.Deep(256), k.Deep(510), k.End(1), k.End(256))
	}
	checkList(t, "two chains:", k.Kids(0), 1, 256)
}

func TestManyNodes(t *testing.T) {
	l := fan(api.MaxNodes)
	for n := range l {
		if n%3 == 0 {
			l[n].S.Position = api.Absolute
		}
	}
	k := of(t, "MaxNodes", l)
	kids, flow := k.Kids(0), k.Flow(0)
	if k.Len() != 65535 || len(kids) != 65534 || len(flow) != 65534-21844 || k.End(0) != 65535 {
		t.Error("MaxNodes:", k.Len(), len(kids), len(flow), k.End(0))
	}
	for n, kid := range kids {
		if kid != n+1 || k.Parent(kid) != 0 || k.End(kid) != kid+1 || k.Deep(kid) != 2 || k.Out(kid) != (kid%3 == 0) || k.Style(kid) != l[kid].S {
			t.Fatal("MaxNodes: node", n+1)
		}
	}
	checkList(t, "MaxNodes:", k.Up(65534), 0)
	for _, n := range []int{65535, 65536} {
		if got := ask(k, n, []int{0, 65534, 65535, 65536}); !got.same(nothing()) {
			t.Error("MaxNodes:", n, got)
		}
	}
	checkError(t, "one more than MaxNodes", fan(api.MaxNodes+1), api.ErrLimit)
}

// TestBroadAndDeep has so many nodes at such depths that to look through the tree for each answer would not end soon.
func TestBroadAndDeep(t *testing.T) {
	l := chain(65535)
	for n := 1; n < len(l); n++ {
		if n%255 == 1 {
			l[n].Parent = 0
		}
	}
	k := of(t, "broad and deep", l)
	kids, all := 0, k.Len()
	for n := range all {
		kids += len(k.Kids(n))
		if n > 0 && (len(k.Up(n)) != 1+(n-1)%255 || k.Deep(n) != 2+(n-1)%255 || k.End(n) != min((n-1)/255*255+256, all)) {
			t.Fatal("node", n, "has Up", k.Up(n), "Deep", k.Deep(n), "End", k.End(n))
		}
	}
	if kids != all-1 {
		t.Error("children:", kids)
	}
}

func TestShapes(t *testing.T) {
	for size := range 8 {
		checkTree(t, "chain", chain(size+1))
		checkTree(t, "fan", fan(size+1))
	}
	checkTree(t, "sample", sample())
	for _, parents := range [][]int{{-1, 0, 1, 2, 0, 4, 0}, {-1, 0, 0, 2, 3, 4, 2, 0, 7}, {-1, 0, 1, 2, 3, 3, 2, 1, 0}} {
		checkTree(t, "branches", nodes(parents...))
	}
}

// TestEveryField changes each number and flag of a style, at each node.
func TestEveryField(t *testing.T) {
	fields := len(leaves(reflect.ValueOf(api.Style{})))
	if fields != 48 {
		t.Error("fields of a style:", fields)
	}
	for n := range sample() {
		valid := 0
		for field := range fields {
			l := sample()
			l[n].S = full()
			checkTree(t, "all fields", l)
			v := leaves(reflect.ValueOf(&l[n].S).Elem())[field]
			if v.Kind() == reflect.Bool {
				v.SetBool(!v.Bool())
			} else {
				v.SetInt(v.Int() ^ 1)
			}
			if tree.Check(l) == api.OK {
				valid++
				checkTree(t, "field", l)
			}
		}
		// All but the kinds of the 18 lengths, which go with N, and HasZ, which goes with Z.
		if valid != fields-18-1 {
			t.Error("fields that can be changed alone:", valid)
		}
	}
}

// full is a valid style in which each number is another one, as far as its meaning allows.
func full() api.Style {
	s := api.Style{Shown: true, Position: api.Relative, RTL: true, HasZ: true, Clip: true}
	for n, v := range leaves(reflect.ValueOf(&s).Elem()) {
		if v.Kind() == reflect.Int64 {
			v.SetInt(int64(1000 + 10*n))
		}
	}
	for _, l := range []*api.Len{&s.Width, &s.Height, &s.MinW, &s.MaxW, &s.MinH, &s.MaxH} {
		l.Kind = api.Units
	}
	for side := range 4 {
		s.Off[side].Kind, s.Margin[side].Kind, s.Pad[side].Kind = api.Part, api.Units, api.Part
	}
	return s
}

// leaves are all numbers and flags of a style.
func leaves(v reflect.Value) []reflect.Value {
	var l []reflect.Value
	switch v.Kind() {
	case reflect.Struct:
		for n := range v.NumField() {
			l = append(l, leaves(v.Field(n))...)
		}
	case reflect.Array:
		for n := range v.Len() {
			l = append(l, leaves(v.Index(n))...)
		}
	default:
		l = append(l, v)
	}
	return l
}

func TestNotShown(t *testing.T) {
	k := of(t, "shown", sample())
	for n := range k.Len() {
		if !k.Made(n) || k.Out(n) {
			t.Error("shown:", n, k.Made(n), k.Out(n))
		}
		checkList(t, "shown:", k.Flow(n), k.Kids(n)...)
	}
	for n := range sample() {
		l := sample()
		l[n].S.Shown = false
		k := of(t, "not shown", l)
		// What is below a node that is not shown generates no box, although it is Shown itself.
		for m := range l {
			if k.Made(m) == k.Below(n, m) || k.Out(m) || k.Style(m) != l[m].S {
				t.Error(n, "is not shown:", m, k.Made(m), k.Out(m))
			}
			if slices.Contains(k.Flow(k.Parent(m)), m) == (m == 0 || k.Below(n, m)) {
				t.Error(n, "is not shown:", k.Parent(m), "has", m, "in its flow", k.Flow(k.Parent(m)))
			}
		}
		checkKin(t, "not shown", k, l)
		for m := range l {
			l[m].S.Shown = m == n
		}
		checkTree(t, "shown alone", l)
	}
}

// TestPositions gives each Position to each node, with each node shown and not.
func TestPositions(t *testing.T) {
	for n := range sample() {
		for position := api.Static; position <= api.Fixed; position++ {
			l := sample()
			l[n].S.Position = position
			checkTree(t, "Position", l)
			taken := n != 0 && position >= api.Absolute
			k := of(t, "Position", l)
			if k.Out(n) != taken || !k.Made(n) || k.Style(n).Position != position {
				t.Error("Position", position, "of", n, "Out:", k.Out(n), "Made:", k.Made(n))
			}
			if n > 0 && slices.Contains(k.Flow(k.Parent(n)), n) == taken {
				t.Error("Position", position, "of", n, "Flow:", k.Flow(k.Parent(n)))
			}
			// Its descendants are in the flow of their parents, whatever it is.
			for m := range l {
				if m != n && (k.Out(m) || !k.Made(m)) {
					t.Error("Position", position, "of", n, "takes out", m)
				}
			}
			for hidden := range l {
				l[hidden].S.Shown = false
				k := of(t, "Position, not shown", l)
				if k.Out(n) != (taken && !k.Below(hidden, n)) {
					t.Error("Position", position, "of", n, "below", hidden, "Out:", k.Out(n))
				}
				checkKin(t, "Position, not shown", k, l)
				l[hidden].S.Shown = true
			}
		}
	}
}

func TestFirstNode(t *testing.T) {
	for position := api.Static; position <= api.Fixed; position++ {
		for _, shown := range []bool{true, false} {
			for _, l := range [][]api.Node{nodes(-1), nodes(-1, 0), sample()} {
				l[0].S.Position, l[0].S.Shown = position, shown
				k := of(t, "first node", l)
				if k.Out(0) || k.Made(0) != shown || k.Parent(0) != -1 || k.Deep(0) != 1 || k.End(0) != len(l) || len(k.Up(0)) != 0 {
					t.Error("first node:", position, shown, k.Out(0), k.Made(0), k.Parent(0), k.Deep(0), k.End(0), k.Up(0))
				}
				for n := range l {
					if k.Made(n) != shown || k.Out(n) {
						t.Error("first node:", position, shown, "node", n, k.Made(n), k.Out(n))
					}
				}
				checkKin(t, "first node", k, l)
			}
		}
	}
}

// TestFlow has children of all kinds below one node.
func TestFlow(t *testing.T) {
	for _, above := range [][]int{{-1}, {-1, 0}, {-1, 0, 1, 1}} {
		parent := len(above) - 1
		l := nodes(above...)
		var kids, flow []int
		for turn := range 3 {
			for position := api.Static; position <= api.Fixed; position++ {
				for _, shown := range []bool{true, false} {
					kid := api.Node{S: plain(), Parent: parent}
					kid.S.Position, kid.S.Shown = position, shown
					kids = append(kids, len(l))
					if shown && position <= api.Relative {
						flow = append(flow, len(l))
					}
					l = append(l, kid)
					// Grandchildren are no children, and a child is in the flow whatever its descendants are.
					for range turn {
						kid.Parent, kid.S.Position = len(l)-1, api.Static
						l = append(l, kid)
					}
				}
			}
		}
		k := of(t, "flow", l)
		checkList(t, "Kids:", k.Kids(parent), kids...)
		checkList(t, "Flow:", k.Flow(parent), flow...)
		checkKin(t, "flow", k, l)
		l[parent].S.Position = api.Absolute
		k = of(t, "flow in what is taken out", l)
		checkList(t, "Flow in what is taken out:", k.Flow(parent), flow...)
		l[parent].S.Shown = false
		k = of(t, "flow in what is not shown", l)
		checkList(t, "Flow in what is not shown:", k.Flow(parent))
		checkList(t, "Kids of what is not shown:", k.Kids(parent), kids...)
	}
}

func TestBelow(t *testing.T) {
	k := of(t, "below", sample())
	for n := range k.Len() {
		if !k.Below(n, n) || !k.Below(0, n) || n > 0 && k.Below(n, 0) {
			t.Error("Below:", n, "and itself or the first node")
		}
	}
	for _, c := range []struct {
		a, n int
		want bool
	}{
		{1, 2, true}, {2, 1, false}, {1, 3, true}, {3, 1, false}, {1, 5, true}, {5, 1, false}, {6, 9, true}, {9, 6, false},
		{3, 4, false}, {4, 3, false}, {2, 5, false}, {5, 2, false}, {1, 6, false}, {6, 1, false}, {5, 6, false}, {6, 11, false},
		{11, 6, false}, {9, 10, false}, {10, 9, false}, {8, 9, true}, {10, 11, false},
	} {
		if k.Below(c.a, c.n) != c.want {
			t.Error("Below:", c.a, c.n, k.Below(c.a, c.n))
		}
	}
}

// checkNothing checks that n is not a node of k, which Below is asked with each of among on either side.
func checkNothing(t *testing.T, name string, k *Kin, n int, among []int) {
	t.Helper()
	if got := ask(k, n, among); !got.same(nothing()) {
		t.Errorf("%s: of %d %+v", name, n, got)
	}
}

func TestNotNodes(t *testing.T) {
	for _, l := range [][]api.Node{nodes(-1), chain(3), sample()} {
		l[0].S.Position = api.Fixed
		k := of(t, "not nodes", l)
		all := around(len(l))
		for _, n := range all {
			if n < 0 || n >= len(l) {
				checkNothing(t, "not a node", k, n, all)
			}
		}
	}
}

func TestNil(t *testing.T) {
	var k *Kin
	if k.Len() != 0 {
		t.Error("Len:", k.Len())
	}
	for _, n := range around(3) {
		checkNothing(t, "nil", k, n, around(3))
	}
	// What Of returns with an error is such a Kin, too.
	k, _ = Of(chain(api.MaxDepth + 1))
	if k.Len() != 0 {
		t.Error("Len:", k.Len())
	}
	checkNothing(t, "nil", k, 0, around(3))
}

// TestArgumentsStay gives Of a part of a list, so that a change of the spare capacity would be seen.
func TestArgumentsStay(t *testing.T) {
	whole := append(sample(), api.Node{}, api.Node{S: plain(), Parent: 5})
	before := slices.Clone(whole)
	for n := range len(whole) + 1 {
		k, _ := Of(whole[:n])
		for _, m := range around(n) {
			a := ask(k, m, nil)
			spoil(a.kids)
			spoil(a.flow)
			spoil(a.up)
		}
		if !slices.Equal(whole, before) {
			t.Fatal("a list of", n, "nodes has changed")
		}
	}
}

// TestListIsNotKept changes the list behind Of, in all that a Kin answers from.
func TestListIsNotKept(t *testing.T) {
	l := sample()
	l[3].S.Position, l[7].S.Shown = api.Fixed, false
	before := slices.Clone(l)
	k := of(t, "list", l)
	for n := range l {
		l[n].S.Shown, l[n].S.Position, l[n].S.Back, l[n].Parent = !l[n].S.Shown, api.Absolute, 99, n-1
		checkKin(t, "list changed", k, before)
	}
	clear(l)
	checkKin(t, "list cleared", k, before)
}

// spoil fills l and its spare capacity.
func spoil(l []int) {
	l = l[:cap(l)]
	for n := range l {
		l[n] = -77
	}
}

// TestResultsAreApart changes each result and asks again.
func TestResultsAreApart(t *testing.T) {
	l := sample()
	l[5].S.Position = api.Absolute
	k := of(t, "results", l)
	for n := range l {
		// Two lists of the same answer, and all lists of the other kinds, stay when one of them changes.
		for _, question := range []func(int) []int{k.Kids, k.Flow, k.Up} {
			first, second, other := question(n), question(n), ask(k, n, nil)
			want := answersByHand(l, n)
			kept := slices.Clone(second)
			_ = append(first, 5)
			spoil(first)
			if !slices.Equal(second, kept) || !slices.Equal(other.kids, want.kids) || !slices.Equal(other.flow, want.flow) || !slices.Equal(other.up, want.up) {
				t.Fatal("a result of", n, "has changed")
			}
			checkKin(t, "result changed", k, l)
		}
	}
}

// TestAlwaysAlike asks in different orders, two Kins of one list and one of another list between them.
func TestAlwaysAlike(t *testing.T) {
	l := sample()
	l[2].S.Shown, l[6].S.Position = false, api.Fixed
	one, two, other := of(t, "one", l), of(t, "two", l), of(t, "other", chain(12))
	all := around(len(l))
	var first []answers
	for _, n := range all {
		first = append(first, ask(one, n, all))
	}
	for turn := range 5 {
		for step := range all {
			at := step * (turn*2 + 1) % len(all)
			if turn == 4 {
				at = len(all) - 1 - step
			}
			ask(other, all[at], all)
			if !ask(two, all[at], all).same(first[at]) || !ask(one, all[at], all).same(first[at]) {
				t.Fatal("another answer for", all[at])
			}
		}
	}
	checkKin(t, "other", other, chain(12))
}

// TestAllShortTrees has all trees of up to four nodes, with each node shown and not and in each Position.
func TestAllShortTrees(t *testing.T) {
	trees := make([]int, 5)
	var extend func(l []api.Node)
	extend = func(l []api.Node) {
		if len(l) > 0 {
			trees[len(l)]++
			checkTree(t, "short tree", l)
		}
		if len(l) == 4 {
			return
		}
		parents := []int{-1}
		if len(l) > 0 {
			parents = append([]int{len(l) - 1}, upByHand(l, len(l)-1)...)
		}
		for _, parent := range parents {
			for kind := range 8 {
				node := api.Node{S: plain(), Parent: parent}
				node.S.Shown, node.S.Position, node.S.Back = kind < 4, kind%4, int64(len(l))
				extend(append(slices.Clone(l), node))
			}
		}
	}
	extend(nil)
	// The number of ordered trees of n nodes, times 8 to the power of n.
	if want := []int{0, 8, 64, 2 * 512, 5 * 4096}; !slices.Equal(trees, want) {
		t.Error("trees:", trees, "want", want)
	}
}

// draw is a fixed rule that gives numbers without a pattern.
type draw uint64

func (d *draw) below(n int) int {
	*d = *d*6364136223846793005 + 1442695040888963407
	return int(uint64(*d) >> 33 % uint64(n))
}

// list is a tree whose parents are drawn from what may be one, with now and then a fault.
func (d *draw) list() []api.Node {
	l := nodes(-1)
	size := 1 + d.below(40)
	for n := 1; n < size; n++ {
		node := api.Node{S: plain(), Parent: n - 1}
		for d.below(3) == 0 && node.Parent > 0 {
			node.Parent = l[node.Parent].Parent
		}
		node.S.Shown, node.S.Position, node.S.Back = d.below(5) > 0, d.below(4), int64(n)
		l = append(l, node)
	}
	at := d.below(len(l))
	switch d.below(8) {
	case 0:
		l[at].S.Pad[d.below(4)] = api.Len{}
	case 1:
		l[at].S.Line = api.MaxColor + 1
	case 2:
		l[at].Parent = d.below(len(l)+2) - 2
	}
	return l
}

func TestDrawn(t *testing.T) {
	d := draw(8)
	seen := make([]int, api.ErrLimit+1)
	for range 2000 {
		l := d.list()
		want := tree.Check(l)
		seen[want]++
		if want != api.OK {
			checkError(t, "drawn", l, want)
			continue
		}
		checkTree(t, "drawn", l)
	}
	if slices.Min([]int{seen[api.OK], seen[api.ErrForm], seen[api.ErrLimit]}) < 100 {
		t.Error("not every outcome:", seen)
	}
}
