package bag_test

import (
	"math"
	"math/rand"
	"slices"
	"strings"
	"sync"
	"testing"

	"starling/api"
	"starling/bag"
)

const (
	top  = 1000000 // the last number of a dot
	most = 32      // values of a bag
	long = 64      // bytes of a value
)

// vector is the numbers of the first nodes; those of the others are 0.
func vector(first ...int) api.Vector {
	var v api.Vector
	copy(v[:], first)
	return v
}

// full is a vector in which all numbers are n.
func full(n int) api.Vector {
	return vector(n, n, n, n, n, n, n, n)
}

// but is v with another number for one node.
func but(v api.Vector, node, n int) api.Vector {
	v[node] = n
	return v
}

func dot(node, n int) api.Dot {
	return api.Dot{Node: node, N: n}
}

func value(node, n int, data string) api.Value {
	return api.Value{Dot: dot(node, n), Data: data}
}

func of(known api.Vector, values ...api.Value) api.Bag {
	return api.Bag{Known: known, Values: values}
}

// many is n values in order, from eight nodes, with numbers from 1 on.
func many(n int) []api.Value {
	var l []api.Value
	for node := range 8 {
		for i := node; i < n; i += 8 {
			l = append(l, value(node, i/8+1, "x"))
		}
	}
	return l
}

// some is a valid bag: 0.1 and 2.6 were replaced, as were others before them.
func some() api.Bag {
	return of(vector(3, 0, 6, 0, 0, top, 0, 1), value(0, 2, "b"), value(0, 3, "a"), value(2, 5, "c"), value(5, top, "b"), value(7, 1, ""))
}

// changed is b, with something changed.
func changed(b api.Bag, change func(b *api.Bag)) api.Bag {
	b.Values = slices.Clone(b.Values)
	change(&b)
	return b
}

// numbers are those at which a call may answer otherwise, and their neighbours,
// and numbers that are one of them in fewer bits. They stand in order.
func numbers() []int {
	return []int{
		math.MinInt, math.MinInt + 1, -1 << 32, -top, -2, -1, 0, 1, 2, 3, 4, 5, 6, 7, 8, 9,
		255, 256, top - 1, top, top + 1, 1 << 32, 1<<32 + 1, math.MaxInt - 1, math.MaxInt,
	}
}

// everyOdd is bags that differ from some in one thing each, valid or not.
func everyOdd() []api.Bag {
	var l []api.Bag
	odd := func(change func(b *api.Bag)) { l = append(l, changed(some(), change)) }
	for _, x := range numbers() {
		for node := range 8 {
			odd(func(b *api.Bag) { b.Known[node] = x })
		}
		for i := range some().Values {
			odd(func(b *api.Bag) { b.Values[i].Dot.Node = x })
			odd(func(b *api.Bag) { b.Values[i].Dot.N = x })
		}
	}
	for i := range some().Values {
		for k := range some().Values {
			odd(func(b *api.Bag) { b.Values[i], b.Values[k] = b.Values[k], b.Values[i] })
			odd(func(b *api.Bag) { b.Values[i].Dot = b.Values[k].Dot })
			odd(func(b *api.Bag) { b.Values = slices.Insert(b.Values, k, b.Values[i]) })
		}
		for n := range 67 {
			odd(func(b *api.Bag) { b.Values[i].Data = strings.Repeat("z", n) })
		}
		odd(func(b *api.Bag) { b.Values = slices.Delete(b.Values, i, i+1) })
		odd(func(b *api.Bag) { b.Values = b.Values[:i] })
	}
	for n := range 41 {
		l = append(l, of(full(5), many(n)...))
	}
	return l
}

// isDot, isVector and isBag are what the chapters say is valid, with the limits
// as DOC.md tells them.
func isDot(d api.Dot) bool {
	return d.Node >= 0 && d.Node <= 7 && d.N >= 1 && d.N <= top
}

func isVector(v api.Vector) bool {
	return slices.Min(v[:]) >= 0 && slices.Max(v[:]) <= top
}

func isBag(b api.Bag) bool {
	wrong := 0
	for i, v := range b.Values {
		if !knows(b.Known, v.Dot) || len(v.Data) > long {
			wrong++
		}
		for _, w := range b.Values[:i] {
			if compare(w.Dot, v.Dot) >= 0 {
				wrong++
			}
		}
	}
	return wrong == 0 && isVector(b.Known) && len(b.Values) <= most
}

func knows(v api.Vector, d api.Dot) bool {
	return isDot(dot(d.Node, max(d.N, 1))) && d.N >= 1 && d.N <= v[d.Node]
}

func compare(a, b api.Dot) int {
	return slices.Compare([]int{a.Node, a.N}, []int{b.Node, b.N})
}

// isEqual holds two bags against each other, field by field.
func isEqual(a, b api.Bag) bool {
	if a.Known != b.Known || len(a.Values) != len(b.Values) {
		return false
	}
	for i, v := range a.Values {
		w := b.Values[i]
		if v.Dot.Node != w.Dot.Node || v.Dot.N != w.Dot.N || v.Data != w.Data {
			return false
		}
	}
	return true
}

// both is the greater number for each node.
func both(a, b api.Vector) api.Vector {
	for node := range a {
		a[node] = max(a[node], b[node])
	}
	return a
}

// valueOf is the value of l with this dot.
func valueOf(l []api.Value, d api.Dot) (api.Value, bool) {
	for _, v := range l {
		if v.Dot == d {
			return v, true
		}
	}
	return api.Value{}, false
}

// joinOf is what the chapter says of Join, dot by dot in their order.
func joinOf(a, b api.Bag) (api.Bag, api.Errno) {
	if !isBag(a) || !isBag(b) {
		return api.Bag{}, api.ErrArg
	}
	sum := api.Bag{Known: both(a.Known, b.Known)}
	for _, d := range dotsOf(a, b) {
		v, inA := valueOf(a.Values, d)
		w, inB := valueOf(b.Values, d)
		switch {
		case inA && inB, inA && !knows(b.Known, d):
			sum.Values = append(sum.Values, v)
		case inB && !knows(a.Known, d):
			sum.Values = append(sum.Values, w)
		}
	}
	if len(sum.Values) > most {
		return api.Bag{}, api.ErrFull
	}
	return sum, api.OK
}

// putOf is what the chapter says of Put.
func putOf(b api.Bag, known api.Vector, d api.Dot, data string) (api.Bag, api.Errno) {
	if !isBag(b) || !isVector(known) || !isDot(d) || knows(b.Known, d) || len(data) > long {
		return api.Bag{}, api.ErrArg
	}
	written := of(both(both(b.Known, known), but(full(0), d.Node, d.N)), value(d.Node, d.N, data))
	for _, v := range b.Values {
		if !knows(known, v.Dot) {
			written.Values = append(written.Values, v)
		}
	}
	slices.SortFunc(written.Values, func(v, w api.Value) int { return compare(v.Dot, w.Dot) })
	if len(written.Values) > most {
		return api.Bag{}, api.ErrFull
	}
	return written, api.OK
}

// dotsOf is the dots of both bags, in order, each once.
func dotsOf(a, b api.Bag) []api.Dot {
	var l []api.Dot
	for _, v := range slices.Concat(a.Values, b.Values) {
		l = append(l, v.Dot)
	}
	slices.SortFunc(l, compare)
	return slices.Compact(l)
}

// drawn is a bag that r draws: one of odd, or one with numbers that are few, so
// that bags meet in many dots. Most of them are valid, and many are full.
func drawn(r *rand.Rand, odd []api.Bag) api.Bag {
	if r.Intn(9) == 0 {
		return odd[r.Intn(len(odd))]
	}
	var b api.Bag
	for node := range b.Known {
		b.Known[node] = r.Intn(9)
	}
	share := r.Intn(13)
	for node, n := range b.Known {
		for i := range n {
			if r.Intn(10) < share {
				b.Values = append(b.Values, value(node, i+1, drawnData(r)))
			}
		}
	}
	for len(b.Values) > most && r.Intn(20) > 0 {
		i := r.Intn(len(b.Values))
		b.Values = slices.Delete(b.Values, i, i+1)
	}
	return b
}

func drawnData(r *rand.Rand) string {
	return strings.Repeat(string(rune('a'+r.Intn(3))), r.Intn(3))
}

// drawnDot is a dot, or almost one.
func drawnDot(r *rand.Rand) api.Dot {
	return dot(r.Intn(9)-r.Intn(2), r.Intn(12))
}

// P14.1
func TestMay(t *testing.T) {
	for _, x := range []struct {
		name string
		b    api.Bag
		want bool
	}{
		{"the empty bag", api.Bag{}, true},
		{"an empty list", of(full(0), []api.Value{}...), true},
		{"no values, but something is known", of(vector(3, 0, top)), true},
		{"some", some(), true},
		{"one value, the last known", of(vector(3), value(0, 3, "a")), true},
		{"one value, not the last known", of(vector(3), value(0, 1, "a")), true},
		{"the last node, the last number", of(full(top), value(7, top, "a")), true},
		{"no bytes", of(vector(1), value(0, 1, "")), true},
		{"as many bytes as may be", of(vector(1), value(0, 1, strings.Repeat("x", 64))), true},
		{"one byte too many", of(vector(1), value(0, 1, strings.Repeat("x", 65))), false},
		{"far too many bytes", of(vector(1), value(0, 1, strings.Repeat("x", 1<<16+3))), false},
		{"bytes are counted, not characters", of(vector(1), value(0, 1, strings.Repeat("é", 33))), false},
		{"bytes that are no characters", of(vector(1), value(0, 1, strings.Repeat("\xff", 64))), true},
		{"a later value has too many bytes", of(vector(2), value(0, 1, "a"), value(0, 2, strings.Repeat("x", 65))), false},
		{"the same data twice", of(vector(2), value(0, 1, "a"), value(0, 2, "a")), true},
		{"as many values as may be", of(full(4), many(32)...), true},
		{"one value too many", of(full(5), many(33)...), false},
		{"a dot that is not known", of(vector(3), value(0, 4, "a")), false},
		{"a dot of a node that is not known", of(vector(3), value(1, 1, "a")), false},
		{"a later dot that is not known", of(vector(3), value(0, 3, "a"), value(1, 1, "a")), false},
		{"the number 0", of(vector(3), value(0, 0, "a")), false},
		{"a negative number", of(vector(3), value(0, -1, "a")), false},
		{"the node after the last", of(full(3), value(8, 1, "a")), false},
		{"a negative node", of(full(3), value(-1, 1, "a")), false},
		{"a node that is 0 in fewer bits", of(full(3), value(1<<32, 1, "a")), false},
		{"the same dot twice", of(vector(3), value(0, 3, "a"), value(0, 3, "b")), false},
		{"the same value twice", of(vector(3), value(0, 3, "a"), value(0, 3, "a")), false},
		{"numbers in descending order", of(vector(3), value(0, 3, "a"), value(0, 2, "b")), false},
		{"nodes in descending order", of(full(3), value(1, 1, "a"), value(0, 2, "b")), false},
		{"the node comes before the number", of(full(3), value(0, 3, "b"), value(1, 1, "a")), true},
		{"the last two in descending order", of(full(3), value(0, 1, "a"), value(2, 2, "b"), value(2, 1, "c")), false},
		{"a negative number is known", of(vector(1, -1), value(0, 1, "a")), false},
		{"a number that is too great is known", of(vector(1, top+1), value(0, 1, "a")), false},
		{"nothing but that", of(vector(0, 0, 0, 0, 0, 0, 0, top+1)), false},
		{"a value with a number that is too great", of(vector(top+1), value(0, top+1, "a")), false},
	} {
		if got := bag.May(x.b); got != x.want {
			t.Errorf("%s: May(%v) = %v", x.name, x.b, got)
		}
	}
}

// P14.1
func TestMayOfEveryEdge(t *testing.T) {
	valid := 0
	for _, b := range everyOdd() {
		if isBag(b) {
			valid++
		}
		if got := bag.May(b); got != isBag(b) {
			t.Errorf("May(%v) = %v", b, got)
		}
	}
	if valid < 400 {
		t.Errorf("only %d bags were valid", valid)
	}
}

// P14.1
func TestSame(t *testing.T) {
	for _, x := range []struct {
		name string
		a, b api.Bag
		want bool
	}{
		{"empty ones", api.Bag{}, api.Bag{}, true},
		{"no list and an empty one", api.Bag{}, of(full(0), []api.Value{}...), true},
		{"some and some", some(), some(), true},
		{"other memory beyond the lists", of(full(5), many(9)[:4]...), of(full(5), slices.Clone(many(9)[:4])...), true},
		{"more is known", of(vector(1)), of(vector(2)), false},
		{"more is known of the last node", of(full(0)), of(but(full(0), 7, 1)), false},
		{"a value and none", of(vector(1), value(0, 1, "a")), of(vector(1)), false},
		{"an empty value and none", of(vector(1), value(0, 1, "")), of(vector(1)), false},
		{"other data", of(vector(1), value(0, 1, "a")), of(vector(1), value(0, 1, "b")), false},
		{"longer data", of(vector(1), value(0, 1, "a")), of(vector(1), value(0, 1, "aa")), false},
		{"another number", of(vector(2), value(0, 1, "a")), of(vector(2), value(0, 2, "a")), false},
		{"another node", of(vector(1, 1), value(0, 1, "a")), of(vector(1, 1), value(1, 1, "a")), false},
		{"one value more", of(full(5), many(7)...), of(full(5), many(8)...), false},
		{"the first values are the same", of(full(5), many(8)...), of(full(5), many(8)[:7]...), false},
		{"not valid, and the same", of(full(-1), value(9, -1, "a")), of(full(-1), value(9, -1, "a")), true},
		{"not valid, in another order", of(full(2), value(1, 1, "a"), value(0, 1, "b")), of(full(2), value(0, 1, "b"), value(1, 1, "a")), false},
		{"a value twice and once", of(full(2), value(1, 1, "a"), value(1, 1, "a")), of(full(2), value(1, 1, "a")), false},
	} {
		if got := bag.Same(x.a, x.b); got != x.want {
			t.Errorf("%s: Same(%v, %v) = %v", x.name, x.a, x.b, got)
		}
		if got := bag.Same(x.b, x.a); got != x.want {
			t.Errorf("%s: Same(%v, %v) = %v", x.name, x.b, x.a, got)
		}
	}
}

// P14.1
func TestSameOfEveryEdge(t *testing.T) {
	for _, b := range everyOdd() {
		if got := bag.Same(some(), b); got != isEqual(some(), b) {
			t.Errorf("Same(%v, %v) = %v", some(), b, got)
		}
		if !bag.Same(b, changed(b, func(*api.Bag) {})) {
			t.Errorf("%v is not the same as itself", b)
		}
	}
}

// P14.1: the order is that of the Values.
func TestTexts(t *testing.T) {
	for _, x := range []struct {
		name string
		data []string
		want []string
	}{
		{"none", nil, nil},
		{"one", []string{"a"}, []string{"a"}},
		{"an empty one", []string{""}, []string{""}},
		{"different ones", []string{"a", "b", "c"}, []string{"a", "b", "c"}},
		{"the values come in their own order", []string{"c", "a", "b"}, []string{"c", "a", "b"}},
		{"twice, side by side", []string{"a", "a", "b"}, []string{"a", "b"}},
		{"twice, far apart", []string{"a", "b", "a"}, []string{"a", "b"}},
		{"each stands where it comes first", []string{"b", "a", "b", "c", "a"}, []string{"b", "a", "c"}},
		{"an empty one twice", []string{"", "a", ""}, []string{"", "a"}},
		{"all the same", []string{"a", "a", "a"}, []string{"a"}},
		{"one begins with the other", []string{"a", "ab", "a", "A"}, []string{"a", "ab", "A"}},
		{"bytes that are no characters", []string{"\xff", "\xfe", "\xff"}, []string{"\xff", "\xfe"}},
	} {
		b := of(full(9))
		for i, data := range x.data {
			b.Values = append(b.Values, value(3, i+1, data))
		}
		if got := bag.Texts(b); !slices.Equal(got, x.want) {
			t.Errorf("%s: Texts(%v) = %q", x.name, b, got)
		}
	}
	odd := of(full(-1), value(9, -1, "b"), value(0, 0, strings.Repeat("x", 99)), value(-1, 5, "b"))
	if got := bag.Texts(odd); !slices.Equal(got, []string{"b", strings.Repeat("x", 99)}) {
		t.Errorf("Texts of what is not valid = %q", got)
	}
}

// P14.2
func TestJoin(t *testing.T) {
	none := api.Bag{}
	a := of(vector(1), value(0, 1, "a"))
	for _, x := range []struct {
		name       string
		a, b, want api.Bag
	}{
		{"nothing and nothing", none, none, none},
		{"something and nothing", some(), none, some()},
		{"the same", some(), some(), some()},
		{"one beside another", a, of(vector(0, 1), value(1, 1, "b")), of(vector(1, 1), value(0, 1, "a"), value(1, 1, "b"))},
		{"b knows more, and has it beside", a, of(vector(1, 1), value(0, 1, "a"), value(1, 1, "b")), of(vector(1, 1), value(0, 1, "a"), value(1, 1, "b"))},
		{"it was replaced", a, of(vector(1, 1), value(1, 1, "b")), of(vector(1, 1), value(1, 1, "b"))},
		{"it was replaced by its own node", a, of(vector(2), value(0, 2, "b")), of(vector(2), value(0, 2, "b"))},
		{"it is known, and there is nothing", a, of(vector(1)), of(vector(1))},
		{"a greater one is known, and there is nothing", a, of(vector(5)), of(vector(5))},
		{"a smaller one is known", of(vector(2), value(0, 2, "a")), of(vector(1)), of(vector(2), value(0, 2, "a"))},
		{"another node is known", a, of(vector(0, 5)), of(vector(1, 5), value(0, 1, "a"))},
		{"each replaced the same one", of(vector(1, 1), value(1, 1, "b")), of(vector(1, 0, 1), value(2, 1, "c")), of(vector(1, 1, 1), value(1, 1, "b"), value(2, 1, "c"))},
		{"each replaced what the other has", of(vector(2, 1), value(0, 2, "b")), of(vector(1, 2), value(1, 2, "d")), of(vector(2, 2), value(0, 2, "b"), value(1, 2, "d"))},
		{"each knows what the other has", of(vector(1, 1), value(0, 1, "a")), of(vector(1, 1), value(1, 1, "b")), of(vector(1, 1))},
		{"one is in both, and one is gone from each", of(full(1), value(0, 1, "a"), value(3, 1, "d")), of(full(1), value(3, 1, "d"), value(5, 1, "f")), of(full(1), value(3, 1, "d"))},
		{"values by turns", of(vector(5), value(0, 1, "a"), value(0, 3, "b"), value(0, 5, "c")), of(vector(0, 4), value(1, 2, "d"), value(1, 4, "e")), of(vector(5, 4), value(0, 1, "a"), value(0, 3, "b"), value(0, 5, "c"), value(1, 2, "d"), value(1, 4, "e"))},
		{"the values of a come first and last", of(vector(2, 0, 0, 0, 0, 0, 0, 1), value(0, 1, "a"), value(7, 1, "h")), of(vector(0, 0, 0, 9), value(3, 9, "d")), of(vector(2, 0, 0, 9, 0, 0, 0, 1), value(0, 1, "a"), value(3, 9, "d"), value(7, 1, "h"))},
		{"up to the last number", of(full(top - 1)), of(but(full(0), 7, top), value(7, top, "z")), of(but(full(top-1), 7, top), value(7, top, "z"))},
	} {
		for _, y := range [2][2]api.Bag{{x.a, x.b}, {x.b, x.a}} {
			if got, errno := bag.Join(y[0], y[1]); !isEqual(got, x.want) || errno != api.OK {
				t.Errorf("%s: Join(%v, %v) = %v, %d", x.name, y[0], y[1], got, errno)
			}
		}
	}
}

// P14.2: where the same dot stands for other data in b, those of a count.
func TestJoinKeepsTheDataOfTheFirst(t *testing.T) {
	a := of(vector(2, 1), value(0, 1, "a"), value(0, 2, "b"), value(1, 1, "c"))
	b := of(vector(2, 1, 1), value(0, 1, "p"), value(0, 2, "b"), value(1, 1, "q"), value(2, 1, "r"))
	if got, errno := bag.Join(a, b); !isEqual(got, of(b.Known, append(slices.Clone(a.Values), b.Values[3])...)) || errno != api.OK {
		t.Errorf("Join(a, b) = %v, %d", got, errno)
	}
	if got, errno := bag.Join(b, a); !isEqual(got, b) || errno != api.OK {
		t.Errorf("Join(b, a) = %v, %d", got, errno)
	}
	if bag.Below(a, b) || bag.Below(b, a) || !bag.Below(b, b) {
		t.Error("a bag with other data is below")
	}
}

// P14.2: ErrFull is told of the values that there would be, and ErrArg before it.
func TestJoinErrors(t *testing.T) {
	wrong := of(full(-1))
	rows := func(node, n int) api.Bag {
		b := of(but(full(0), node, n))
		for i := range n {
			b.Values = append(b.Values, value(node, i+1, "x"))
		}
		return b
	}
	for _, x := range []struct {
		name  string
		a, b  api.Bag
		count int
		errno api.Errno
	}{
		{"as many as may be", rows(0, 16), rows(1, 16), 32, api.OK},
		{"one too many", rows(0, 16), rows(1, 17), 0, api.ErrFull},
		{"twice as many as may be", rows(0, 32), rows(1, 32), 0, api.ErrFull},
		{"full, and nothing", rows(0, 32), api.Bag{}, 32, api.OK},
		{"full, and one", rows(0, 32), rows(1, 1), 0, api.ErrFull},
		{"full, and one that replaced one", rows(0, 32), of(vector(1, 1), value(1, 1, "y")), 32, api.OK},
		{"full, and one that replaced all", rows(0, 32), of(vector(99, 1), value(1, 1, "y")), 1, api.OK},
		{"full, and the same", rows(0, 32), rows(0, 32), 32, api.OK},
		{"full, and fewer of the same", rows(0, 32), rows(0, 5), 32, api.OK},
		{"full, and all are known", rows(0, 32), of(vector(32)), 0, api.OK},
		{"one of them is not valid", some(), wrong, 0, api.ErrArg},
		{"neither is valid", wrong, wrong, 0, api.ErrArg},
		{"not valid and empty", api.Bag{}, wrong, 0, api.ErrArg},
		{"too many values", rows(0, 33), api.Bag{}, 0, api.ErrArg},
		{"ErrArg comes before ErrFull", rows(0, 33), rows(1, 32), 0, api.ErrArg},
		{"one that is not valid, and would not be kept", of(vector(2), value(0, 3, "a")), of(vector(9)), 0, api.ErrArg},
	} {
		for _, y := range [2][2]api.Bag{{x.a, x.b}, {x.b, x.a}} {
			got, errno := bag.Join(y[0], y[1])
			if len(got.Values) != x.count || errno != x.errno {
				t.Errorf("%s: Join(%v, %v) = %v, %d", x.name, y[0], y[1], got, errno)
			}
			if errno != api.OK && (got.Known != full(0) || got.Values != nil) {
				t.Errorf("%s: beside the error stands %v", x.name, got)
			}
			if want := errno == api.OK && isEqual(got, y[1]); bag.Below(y[0], y[1]) != want {
				t.Errorf("%s: Below(%v, %v) = %v", x.name, y[0], y[1], !want)
			}
		}
	}
}

// P14.2
func TestBelow(t *testing.T) {
	a := of(vector(1), value(0, 1, "a"))
	for _, x := range []struct {
		name string
		a, b api.Bag
		want bool
	}{
		{"nothing and nothing", api.Bag{}, api.Bag{}, true},
		{"nothing and something", api.Bag{}, some(), true},
		{"something and nothing", some(), api.Bag{}, false},
		{"the same", some(), some(), true},
		{"it is there, with others", a, of(vector(1, 1), value(0, 1, "a"), value(1, 1, "b")), true},
		{"others are missing", of(vector(1, 1), value(0, 1, "a"), value(1, 1, "b")), a, false},
		{"it was replaced", a, of(vector(2), value(0, 2, "b")), true},
		{"it replaced another one", of(vector(2), value(0, 2, "b")), a, false},
		{"it is known, and there is nothing", a, of(vector(1)), true},
		{"what the other one has is known, and gone", of(vector(1)), a, false},
		{"nothing but knowledge", of(vector(1)), of(vector(1, 2)), true},
		{"nothing but knowledge is missing", of(vector(1, 2)), of(vector(1, 1)), false},
		{"more is known, and the values are the same", of(vector(1), value(0, 1, "a")), of(vector(1, 4), value(0, 1, "a")), true},
		{"less is known, and the values are the same", of(vector(1, 4), value(0, 1, "a")), of(vector(1), value(0, 1, "a")), false},
		{"each has what the other has not", a, of(vector(0, 1), value(1, 1, "b")), false},
		{"other data", a, of(vector(1), value(0, 1, "b")), false},
		{"the first one is not valid", of(full(-1)), some(), false},
		{"the second one is not valid", api.Bag{}, of(full(top + 1)), false},
		{"neither is valid, and they are the same", of(full(-1)), of(full(-1)), false},
		{"not valid, by its values", of(vector(1), value(0, 2, "a")), of(vector(1), value(0, 2, "a")), false},
		{"there would be too many", of(full(4), many(32)...), of(vector(0, 0, 0, 0, 0, 0, 0, 9), value(7, 9, "a")), false},
		{"full, and the same", of(full(4), many(32)...), of(full(4), many(32)...), true},
	} {
		if got := bag.Below(x.a, x.b); got != x.want {
			t.Errorf("%s: Below(%v, %v) = %v", x.name, x.a, x.b, got)
		}
	}
}

// P14.2: bags are joined dot by dot, be they valid or not.
func TestJoinOfDrawnBags(t *testing.T) {
	r, odd := rand.New(rand.NewSource(1)), everyOdd()
	told := map[api.Errno]int{}
	below := 0
	for range 30000 {
		a, b := drawn(r, odd), drawn(r, odd)
		if r.Intn(3) == 0 {
			if sum, errno := joinOf(a, b); errno == api.OK {
				b = sum
			}
		}
		want, wantErrno := joinOf(a, b)
		told[wantErrno]++
		if got, errno := bag.Join(a, b); !isEqual(got, want) || errno != wantErrno {
			t.Fatalf("Join(%v, %v) = %v, %d, and not %v, %d", a, b, got, errno, want, wantErrno)
		}
		wantBelow := wantErrno == api.OK && isEqual(want, b)
		if wantBelow {
			below++
		}
		if got := bag.Below(a, b); got != wantBelow {
			t.Fatalf("Below(%v, %v) = %v", a, b, got)
		}
	}
	if told[api.OK] < 3000 || told[api.ErrArg] < 1000 || told[api.ErrFull] < 100 || below < 1000 {
		t.Errorf("%v were told, and %d were below", told, below)
	}
}

// P14.2
func TestJoinOfEveryEdge(t *testing.T) {
	for _, b := range everyOdd() {
		for _, y := range [2][2]api.Bag{{some(), b}, {b, some()}} {
			want, wantErrno := joinOf(y[0], y[1])
			if got, errno := bag.Join(y[0], y[1]); !isEqual(got, want) || errno != wantErrno {
				t.Errorf("Join(%v, %v) = %v, %d", y[0], y[1], got, errno)
			}
		}
	}
}

// P14.3: the example, and the rows beside it.
func TestPut(t *testing.T) {
	none := vector()
	a := of(vector(0, 1), value(1, 1, "a"))
	beside := of(vector(1, 1), value(0, 1, "b"), value(1, 1, "a"))
	for _, x := range []struct {
		name  string
		b     api.Bag
		known api.Vector
		d     api.Dot
		data  string
		want  api.Bag
	}{
		{"the example: the first one", api.Bag{}, none, dot(1, 1), "a", a},
		{"the example: the second one", a, none, dot(0, 1), "b", beside},
		{"it replaces what is known", a, vector(0, 1), dot(1, 2), "b", of(vector(0, 2), value(1, 2, "b"))},
		{"it replaces all", beside, vector(1, 1), dot(2, 1), "c", of(vector(1, 1, 1), value(2, 1, "c"))},
		{"it replaces one of two", beside, vector(0, 1), dot(2, 1), "c", of(vector(1, 1, 1), value(0, 1, "b"), value(2, 1, "c"))},
		{"it replaces the other one of two", beside, vector(1), dot(2, 1), "c", of(vector(1, 1, 1), value(1, 1, "a"), value(2, 1, "c"))},
		{"it stands between others", of(vector(1, 0, 1), value(0, 1, "a"), value(2, 1, "c")), none, dot(1, 1), "b", of(vector(1, 1, 1), value(0, 1, "a"), value(1, 1, "b"), value(2, 1, "c"))},
		{"it stands after all others", a, none, dot(7, 1), "b", of(vector(0, 1, 0, 0, 0, 0, 0, 1), value(1, 1, "a"), value(7, 1, "b"))},
		{"it stands beside one of its own node", a, none, dot(1, 2), "b", of(vector(0, 2), value(1, 1, "a"), value(1, 2, "b"))},
		{"dots before it are left out", a, none, dot(1, 9), "b", of(vector(0, 9), value(1, 1, "a"), value(1, 9, "b"))},
		{"more is known than the bag knows", a, vector(5, 0, 3), dot(1, 2), "b", of(vector(5, 2, 3), value(1, 1, "a"), value(1, 2, "b"))},
		{"more is known of the node itself", a, vector(0, 5), dot(1, 2), "b", of(vector(0, 5), value(1, 2, "b"))},
		{"the dot itself is known to the client", a, vector(2), dot(0, 2), "b", of(vector(2, 1), value(0, 2, "b"), value(1, 1, "a"))},
		{"the bag knows it all, and has nothing", of(vector(4)), vector(4), dot(0, 5), "a", of(vector(5), value(0, 5, "a"))},
		{"the same data", a, none, dot(0, 1), "a", of(vector(1, 1), value(0, 1, "a"), value(1, 1, "a"))},
		{"no bytes", a, vector(0, 1), dot(0, 1), "", of(vector(1, 1), value(0, 1, ""))},
		{"as many bytes as may be", api.Bag{}, none, dot(0, 1), strings.Repeat("x", 64), of(vector(1), value(0, 1, strings.Repeat("x", 64)))},
		{"the last number", api.Bag{}, none, dot(0, top), "a", of(vector(top), value(0, top, "a"))},
		{"the last number is known", of(full(top - 1)), full(top), dot(3, top), "a", of(full(top), value(3, top, "a"))},
		{"the last node", api.Bag{}, none, dot(7, 1), "a", of(but(none, 7, 1), value(7, 1, "a"))},
		{"an empty list", of(none, []api.Value{}...), none, dot(1, 1), "a", a},
	} {
		if got, errno := bag.Put(x.b, x.known, x.d, x.data); !isEqual(got, x.want) || errno != api.OK {
			t.Errorf("%s: Put(%v, %v, %v, %q) = %v, %d", x.name, x.b, x.known, x.d, x.data, got, errno)
		}
	}
}

// P14.3
func TestPutErrors(t *testing.T) {
	none := vector()
	longer := strings.Repeat("x", 65)
	crowd := of(full(4), many(32)...)
	for _, x := range []struct {
		name  string
		b     api.Bag
		known api.Vector
		d     api.Dot
		data  string
		count int
		errno api.Errno
	}{
		{"b is not valid", of(vector(-1)), none, dot(1, 1), "a", 0, api.ErrArg},
		{"b has a value that it does not know", of(none, value(1, 1, "a")), none, dot(2, 1), "a", 0, api.ErrArg},
		{"b has a value that it does not know, and that is replaced", of(none, value(1, 1, "a")), vector(0, 1), dot(2, 1), "a", 0, api.ErrArg},
		{"b has its values in another order", of(full(1), value(1, 1, "a"), value(0, 1, "b")), none, dot(2, 2), "a", 0, api.ErrArg},
		{"b has too many values", of(full(5), many(33)...), full(5), dot(1, 6), "a", 0, api.ErrArg},
		{"b has too long a value", of(vector(1), value(0, 1, longer)), full(5), dot(1, 6), "a", 0, api.ErrArg},
		{"known is negative", some(), vector(-1), dot(1, 1), "a", 0, api.ErrArg},
		{"known is too great", some(), but(none, 7, top+1), dot(1, 1), "a", 0, api.ErrArg},
		{"known is too great, and the dot is the last", api.Bag{}, vector(top + 1), dot(0, top), "a", 0, api.ErrArg},
		{"the node after the last", some(), none, dot(8, 1), "a", 0, api.ErrArg},
		{"a negative node", some(), none, dot(-1, 1), "a", 0, api.ErrArg},
		{"a node that is 1 in fewer bits", some(), none, dot(1<<32+1, 1), "a", 0, api.ErrArg},
		{"the number 0", some(), none, dot(1, 0), "a", 0, api.ErrArg},
		{"a negative number", some(), none, dot(1, -1), "a", 0, api.ErrArg},
		{"a number that is too great", some(), none, dot(1, top+1), "a", 0, api.ErrArg},
		{"a number that is 1 in fewer bits", some(), none, dot(1, 1<<32+1), "a", 0, api.ErrArg},
		{"no dot", some(), none, dot(0, 0), "a", 0, api.ErrArg},
		{"its dot is there", some(), none, dot(0, 3), "a", 0, api.ErrArg},
		{"its dot is there, with the same data", some(), none, dot(0, 3), "b", 0, api.ErrArg},
		{"its dot was replaced", some(), none, dot(0, 1), "a", 0, api.ErrArg},
		{"its dot is known, and nothing is there", of(vector(4)), none, dot(0, 4), "a", 0, api.ErrArg},
		{"one byte too many", some(), none, dot(1, 1), longer, 0, api.ErrArg},
		{"one byte too many, of fewer characters", some(), none, dot(1, 1), strings.Repeat("é", 32) + "x", 0, api.ErrArg},
		{"nothing is valid", of(vector(-1)), vector(-1), dot(-1, -1), longer, 0, api.ErrArg},
		{"one too many", crowd, none, dot(0, 5), "a", 0, api.ErrFull},
		{"it takes the place of another one", crowd, vector(1), dot(0, 5), "a", 32, api.OK},
		{"it takes the place of the last one", of(full(4), many(32)...), but(none, 7, 1), dot(7, 5), "a", 32, api.OK},
		{"it takes the place of all", crowd, full(4), dot(0, 5), "a", 1, api.OK},
		{"the last one for which there is room", of(full(4), many(31)...), none, dot(7, 5), "a", 32, api.OK},
		{"ErrArg comes before ErrFull: known", crowd, vector(0, -1), dot(0, 5), "a", 0, api.ErrArg},
		{"ErrArg comes before ErrFull: the node", crowd, none, dot(8, 5), "a", 0, api.ErrArg},
		{"ErrArg comes before ErrFull: the number", crowd, none, dot(0, top+1), "a", 0, api.ErrArg},
		{"ErrArg comes before ErrFull: a known dot", crowd, none, dot(0, 4), "a", 0, api.ErrArg},
		{"ErrArg comes before ErrFull: the data", crowd, none, dot(0, 5), longer, 0, api.ErrArg},
	} {
		got, errno := bag.Put(x.b, x.known, x.d, x.data)
		if len(got.Values) != x.count || errno != x.errno {
			t.Errorf("%s: Put(%v, %v, %v, %q) = %v, %d", x.name, x.b, x.known, x.d, x.data, got, errno)
		}
		if errno != api.OK && (got.Known != full(0) || got.Values != nil) {
			t.Errorf("%s: beside the error stands %v", x.name, got)
		}
	}
}

// P14.3
func TestPutOfEveryEdge(t *testing.T) {
	check := func(b api.Bag, known api.Vector, d api.Dot, data string) {
		want, wantErrno := putOf(b, known, d, data)
		if got, errno := bag.Put(b, known, d, data); !isEqual(got, want) || errno != wantErrno {
			t.Errorf("Put(%v, %v, %v, %q) = %v, %d", b, known, d, data, got, errno)
		}
	}
	for _, x := range numbers() {
		for node := range 8 {
			check(some(), but(full(0), node, x), dot(1, 1), "a")
			check(some(), but(full(top), node, x), dot(1, 1), "a")
		}
		for _, y := range numbers() {
			check(some(), full(0), dot(x, y), "a")
			check(some(), full(top), dot(x, y), "a")
			check(api.Bag{}, full(2), dot(x, y), "a")
		}
	}
	for n := range 70 {
		check(some(), full(0), dot(1, 1), strings.Repeat("z", n))
	}
	for _, b := range everyOdd() {
		check(b, full(0), dot(4, 7), "a")
		check(b, full(2), dot(4, 7), "a")
	}
}

// P14.3
func TestPutOfDrawnBags(t *testing.T) {
	r, odd := rand.New(rand.NewSource(2)), everyOdd()
	told := map[api.Errno]int{}
	for range 30000 {
		b, known, d, data := drawn(r, odd), drawn(r, odd).Known, drawnDot(r), drawnData(r)
		if r.Intn(2) == 0 {
			known = but(full(0), r.Intn(8), r.Intn(9))
		}
		want, wantErrno := putOf(b, known, d, data)
		told[wantErrno]++
		if got, errno := bag.Put(b, known, d, data); !isEqual(got, want) || errno != wantErrno {
			t.Fatalf("Put(%v, %v, %v, %q) = %v, %d, and not %v, %d", b, known, d, data, got, errno, want, wantErrno)
		}
	}
	if told[api.OK] < 3000 || told[api.ErrArg] < 3000 || told[api.ErrFull] < 30 {
		t.Errorf("%v were told", told)
	}
}

// P14.3: what Put returns is a bag that has the value, and nothing that was
// known, and knows all of it.
func TestWhatPutReturns(t *testing.T) {
	r, odd := rand.New(rand.NewSource(3)), everyOdd()
	for range 5000 {
		b, known, d, data := drawn(r, odd), drawn(r, odd).Known, drawnDot(r), drawnData(r)
		got, errno := bag.Put(b, known, d, data)
		if errno != api.OK {
			continue
		}
		v, is := valueOf(got.Values, d)
		if !bag.May(got) || !is || v.Data != data || !knows(got.Known, d) {
			t.Errorf("Put(%v, %v, %v, %q) = %v", b, known, d, data, got)
		}
		for _, v := range got.Values {
			if knows(known, v.Dot) && v.Dot != d {
				t.Errorf("Put(%v, %v, %v, %q) = %v, which has %v", b, known, d, data, got, v)
			}
		}
	}
}

// write is a value that was put, by somebody who knew known.
type write struct {
	value api.Value
	known api.Vector
}

// flock is a bag of each node, of one key, and all writes. A node gives its own
// writes their dots one by one, so that it knows those before.
type flock struct {
	bags   [8]api.Bag
	writes []write
}

// put has a node put a value, and reports whether there was room.
func (f *flock) put(t *testing.T, node int, known api.Vector, data string) bool {
	t.Helper()
	b := f.bags[node]
	v := value(node, b.Known[node]+1, data)
	got, errno := bag.Put(b, known, v.Dot, data)
	if errno != api.OK {
		if errno != api.ErrFull || len(b.Values) < most {
			t.Fatalf("Put(%v, %v, %v, %q) = %d", b, known, v.Dot, data, errno)
		}
		return false
	}
	f.bags[node] = got
	f.writes = append(f.writes, write{v, known})
	return true
}

// join has a node join the bag of another one, if there is room.
func (f *flock) join(t *testing.T, node, other int) {
	t.Helper()
	got, errno := bag.Join(f.bags[node], f.bags[other])
	if errno == api.OK {
		f.bags[node] = got
	} else if errno != api.ErrFull || len(f.bags[node].Values)+len(f.bags[other].Values) <= most {
		t.Fatalf("Join(%v, %v) = %d", f.bags[node], f.bags[other], errno)
	}
}

// values is what a bag must have that knows known: all writes that it knows and
// that nobody replaced who knew of them, as far as it knows.
func (f *flock) values(known api.Vector) []api.Value {
	var l []api.Value
	for _, w := range f.writes {
		isReplaced := slices.ContainsFunc(f.writes, func(x write) bool {
			return knows(known, x.value.Dot) && knows(x.known, w.value.Dot)
		})
		if knows(known, w.value.Dot) && !isReplaced {
			l = append(l, w.value)
		}
	}
	slices.SortFunc(l, func(v, w api.Value) int { return compare(v.Dot, w.Dot) })
	return l
}

// step has a node put a value or join another bag, as r draws it.
func (f *flock) step(t *testing.T, r *rand.Rand) {
	t.Helper()
	node, other, third := r.Intn(8), r.Intn(8), r.Intn(8)
	switch r.Intn(6) {
	case 0:
		f.put(t, node, vector(), drawnData(r))
	case 1:
		f.put(t, node, f.bags[node].Known, drawnData(r))
	case 2:
		// The client asked two other nodes.
		f.put(t, node, both(f.bags[other].Known, f.bags[third].Known), drawnData(r))
	default:
		f.join(t, node, other)
	}
}

// grown is a flock after some steps.
func grown(t *testing.T, r *rand.Rand) *flock {
	t.Helper()
	f := &flock{}
	for range r.Intn(60) {
		f.step(t, r)
	}
	return f
}

// P14.4, T3: each bag has the values that it must have, and no others, at all
// times.
func TestAValueRemainsUntilItIsReplaced(t *testing.T) {
	r := rand.New(rand.NewSource(4))
	greatest := 0
	for range 150 {
		f := &flock{}
		for range 120 {
			f.step(t, r)
			for node, b := range f.bags {
				greatest = max(greatest, len(b.Values))
				if want := f.values(b.Known); !bag.May(b) || !slices.Equal(b.Values, want) {
					t.Fatalf("node %d has %v, and not %v", node, b, want)
				}
			}
		}
	}
	if greatest < 12 {
		t.Errorf("no bag had more than %d values", greatest)
	}
}

// P14.4, T3: a value goes through every Join and every Put that does not know
// it, and is gone after one that does.
func TestAValueGoesThroughJoins(t *testing.T) {
	r := rand.New(rand.NewSource(5))
	for range 500 {
		f := grown(t, r)
		node := r.Intn(8)
		if !f.put(t, node, vector(), "here") {
			continue
		}
		v := f.writes[len(f.writes)-1].value
		b := f.bags[node]
		for i := range 8 {
			if sum, errno := bag.Join(b, f.bags[i]); errno == api.OK {
				b = sum
			}
			if sum, errno := bag.Join(f.bags[i], b); errno == api.OK {
				b = sum
			}
			unknown := but(b.Known, node, v.Dot.N-1)
			if next, errno := bag.Put(b, unknown, dot(i, b.Known[i]+1), "there"); errno == api.OK {
				b = next
			}
			if got, is := valueOf(b.Values, v.Dot); !is || got != v {
				t.Fatalf("%v is lost from %v", v, b)
			}
		}
		after, errno := bag.Put(b, but(vector(), node, v.Dot.N), dot(3, b.Known[3]+1), "instead")
		if _, is := valueOf(after.Values, v.Dot); is || errno != api.OK {
			t.Fatalf("%v is still in %v, %d", v, after, errno)
		}
		if sum, errno := bag.Join(b, after); !isEqual(sum, after) || errno != api.OK || !bag.Below(b, after) {
			t.Fatalf("Join(%v, %v) = %v, %d", b, after, sum, errno)
		}
	}
}

// P14.4: it does not matter in which order bags are joined, or how often.
func TestJoinInAnyOrder(t *testing.T) {
	r := rand.New(rand.NewSource(6))
	joins := 0
	for range 1500 {
		l := grown(t, r).bags[:]
		want, errno := joined(l)
		if errno != api.OK {
			continue
		}
		joins++
		twice := append(slices.Clone(l), l...)
		r.Shuffle(len(twice), func(i, k int) { twice[i], twice[k] = twice[k], twice[i] })
		half := r.Intn(len(twice))
		left, errnoL := joined(twice[:half+1])
		right, errnoR := joined(twice[half:])
		if errnoL != api.OK || errnoR != api.OK {
			continue
		}
		all, errnoA := joined(twice)
		sum, errnoS := bag.Join(left, right)
		if !isEqual(sum, want) || errnoS != api.OK || errnoA == api.OK && !isEqual(all, want) {
			t.Errorf("%v joined are %v, and not always", l, want)
		}
		for _, b := range l {
			if !bag.Below(b, want) {
				t.Errorf("%v is not below %v", b, want)
			}
		}
	}
	if joins < 500 {
		t.Errorf("only %d flocks were joined", joins)
	}
}

// joined is the bags of l, joined one by one.
func joined(l []api.Bag) (api.Bag, api.Errno) {
	sum := api.Bag{}
	for _, b := range l {
		next, errno := bag.Join(sum, b)
		if errno != api.OK {
			return api.Bag{}, errno
		}
		sum = next
	}
	return sum, api.OK
}

// P14.4: neither the order of two bags nor that of three matters.
func TestJoinOfTwoAndThree(t *testing.T) {
	r := rand.New(rand.NewSource(7))
	for range 1500 {
		f := grown(t, r)
		a, b, c := f.bags[r.Intn(8)], f.bags[r.Intn(8)], f.bags[r.Intn(8)]
		ab, errnoAB := bag.Join(a, b)
		ba, errnoBA := bag.Join(b, a)
		if !isEqual(ab, ba) || errnoAB != errnoBA {
			t.Fatalf("Join(%v, %v) = %v, %d, and in the other order %v, %d", a, b, ab, errnoAB, ba, errnoBA)
		}
		bc, errnoBC := bag.Join(b, c)
		if errnoAB != api.OK || errnoBC != api.OK {
			continue
		}
		left, errnoL := bag.Join(ab, c)
		right, errnoR := bag.Join(a, bc)
		if !isEqual(left, right) || errnoL != errnoR {
			t.Fatalf("%v, %v and %v joined are %v, %d, or %v, %d", a, b, c, left, errnoL, right, errnoR)
		}
		if !bag.Below(a, ab) || !bag.Below(b, ab) || bag.Below(a, b) && bag.Below(b, a) && !isEqual(a, b) {
			t.Fatalf("Join(%v, %v) = %v, which is not above both", a, b, ab)
		}
	}
}

// overwrite changes l, and the memory behind it.
func overwrite[T any](l []T, x T) {
	l = l[:cap(l)]
	for i := range l {
		l[i] = x
	}
}

// P14.2, P14.3, R2: results share no memory with arguments.
func TestResultsAreNewMemory(t *testing.T) {
	other := of(vector(0, 2, 0, 0, 0, 0, 0, 1), value(1, 2, "q"), value(7, 1, ""))
	for _, x := range []struct {
		name string
		call func(a, b api.Bag) api.Bag
	}{
		{"Join", func(a, b api.Bag) api.Bag { got, _ := bag.Join(a, b); return got }},
		{"Join, the other way about", func(a, b api.Bag) api.Bag { got, _ := bag.Join(b, a); return got }},
		{"Join with itself", func(a, b api.Bag) api.Bag { got, _ := bag.Join(a, a); return got }},
		{"Join with nothing", func(a, b api.Bag) api.Bag { got, _ := bag.Join(a, api.Bag{}); return got }},
		{"Join of nothing", func(a, b api.Bag) api.Bag { got, _ := bag.Join(api.Bag{}, b); return got }},
		{"Put", func(a, b api.Bag) api.Bag { got, _ := bag.Put(a, vector(2), dot(1, 1), "z"); return got }},
		{"Put that replaces nothing", func(a, b api.Bag) api.Bag { got, _ := bag.Put(b, vector(), dot(7, 2), "z"); return got }},
	} {
		a, b := some(), changed(other, func(*api.Bag) {})
		first, second := x.call(a, b), x.call(a, b)
		want := slices.Clone(second.Values)
		overwrite(first.Values, value(-7, -7, "spoiled"))
		if !isEqual(a, some()) || !isEqual(b, other) || !slices.Equal(second.Values, want) {
			t.Errorf("%s shares memory: %v, %v, %v", x.name, a, b, second)
		}
		overwrite(a.Values, value(-7, -7, "spoiled"))
		overwrite(b.Values, value(-7, -7, "spoiled"))
		if !slices.Equal(second.Values, want) {
			t.Errorf("%s: the result became %v", x.name, second)
		}
	}
	texts, again := bag.Texts(some()), bag.Texts(some())
	overwrite(texts, "spoiled")
	if !slices.Equal(again, []string{"b", "a", "c", ""}) {
		t.Errorf("Texts became %q", again)
	}
}

// P14.1 to P14.3, R2: what lies beyond a list is neither read nor written.
func TestArgumentsStay(t *testing.T) {
	room := append(many(32), value(9, -1, "beyond"), value(0, 1, "beyond"))
	more := slices.Clone(room)
	a, b := of(full(5), room[:20]...), of(full(4), room[12:32]...)
	if !bag.May(a) || !bag.May(b) || !bag.Same(a, of(full(5), more[:20]...)) {
		t.Error("memory beyond the lists was read")
	}
	bag.Join(a, b)
	bag.Join(b, a)
	bag.Below(a, b)
	bag.Texts(a)
	for node := range 8 {
		bag.Put(a, vector(), dot(node, 6), "a")
		bag.Put(a, full(3), dot(node, 6), "a")
		bag.Put(b, but(full(0), node, 5), dot(node, 5), "a")
	}
	if !slices.Equal(room, more) || !isEqual(a, of(full(5), more[:20]...)) || !isEqual(b, of(full(4), more[12:32]...)) {
		t.Errorf("the arguments became %v, %v and %v", a, b, room)
	}
}

// P14.1 to P14.3: lists and data that are far too long are refused, or gone
// through once.
func TestFarTooMany(t *testing.T) {
	crowd := of(full(top))
	for i := range 1 << 18 {
		data := string([]byte{byte(i), byte(i >> 8), byte(i >> 16)})
		crowd.Values = append(crowd.Values, value(0, i+1, data))
	}
	if bag.May(crowd) || bag.Below(crowd, crowd) || !bag.Same(crowd, crowd) {
		t.Error("a crowd is a bag")
	}
	if got, errno := bag.Join(some(), crowd); errno != api.ErrArg || !isEqual(got, api.Bag{}) {
		t.Errorf("Join = %v, %d", got, errno)
	}
	if got, errno := bag.Put(crowd, full(top), dot(0, top), "a"); errno != api.ErrArg || !isEqual(got, api.Bag{}) {
		t.Errorf("Put = %v, %d", got, errno)
	}
	if got, errno := bag.Put(api.Bag{}, vector(), dot(0, 1), strings.Repeat("x", 1<<24)); errno != api.ErrArg || !isEqual(got, api.Bag{}) {
		t.Errorf("Put of long data = %v, %d", got, errno)
	}
	texts := bag.Texts(crowd)
	if len(texts) != 1<<18 || texts[1<<17] != crowd.Values[1<<17].Data {
		t.Errorf("there are %d texts", len(texts))
	}
	crowd.Values = append(crowd.Values, crowd.Values...)
	if !slices.Equal(bag.Texts(crowd), texts) {
		t.Error("a text is told twice")
	}
}

// P14.1 to P14.3, R6: nothing is kept from call to call, in whatever order the
// calls come.
func TestNothingIsKept(t *testing.T) {
	r, odd := rand.New(rand.NewSource(8)), everyOdd()
	var l []api.Bag
	for range 400 {
		l = append(l, drawn(r, odd))
	}
	var all sync.WaitGroup
	for worker := range 4 {
		order, other := r.Perm(len(l)), r.Perm(len(l))
		all.Go(func() {
			for n, i := range order {
				a, b, d := l[i], l[other[n]], dot(n%8, n%7+1)
				want, wantErrno := joinOf(a, b)
				if got, errno := bag.Join(a, b); !isEqual(got, want) || errno != wantErrno {
					t.Errorf("worker %d: Join(%v, %v) = %v, %d", worker, a, b, got, errno)
				}
				want, wantErrno = putOf(a, b.Known, d, "z")
				if got, errno := bag.Put(a, b.Known, d, "z"); !isEqual(got, want) || errno != wantErrno {
					t.Errorf("worker %d: Put(%v, %v, %v, z) = %v, %d", worker, a, b.Known, d, got, errno)
				}
				if bag.May(a) != isBag(a) || bag.Same(a, b) != isEqual(a, b) {
					t.Errorf("worker %d: May or Same of %v is wrong", worker, a)
				}
				bag.Texts(a)
			}
		})
	}
	all.Wait()
}
