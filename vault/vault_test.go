package vault_test

import (
	"math"
	"math/rand"
	"slices"
	"strconv"
	"strings"
	"sync"
	"testing"

	"starling/api"
	"starling/bag"
	"starling/ledger"
	"starling/ring"
	"starling/spot"
	"starling/vault"
)

const (
	top     = 1000000 // the last incarnation, and the last number
	most    = 3000    // deeds of a ledger
	keys    = 200     // of a node
	parts   = 16
	nodes   = 8
	bagFull = 32 // values of a bag
)

// numbers are those at which a call may answer otherwise, and their neighbours,
// and numbers that are one of them in fewer bits.
func numbers() []int {
	return []int{
		math.MinInt, math.MinInt + 1, -1 << 32, -top, -256, -16, -2, -1, 0, 1, 2, 3, 4, 5, 6, 7, 8, 9, 14, 15, 16, 17,
		255, 256, 259, 65536, top - 1, top, top + 1, 1 << 32, 1<<32 + 1, math.MaxInt - 1, math.MaxInt,
	}
}

// odd are keys that are not valid.
func odd() []string {
	return []string{"", strings.Repeat("k", 33), strings.Repeat("k", 256+3), strings.Repeat("é", 17), strings.Repeat("k", 1<<16+3)}
}

// state is everything that a vault tells.
type state struct {
	inc     int
	ring    api.Ring
	hasRing bool
	dots    int
	keys    [parts][]string
	bags    map[string]api.Bag
}

func stateOf(v *vault.Vault) state {
	s := state{inc: v.Inc(), dots: v.Dots(), bags: map[string]api.Bag{}}
	s.ring, s.hasRing = v.Ring()
	for part := range parts {
		s.keys[part] = v.Keys(part)
		for _, key := range s.keys[part] {
			s.bags[key] = v.Bag(key)
		}
	}
	return s
}

func (s state) isSame(other state) bool {
	if s.inc != other.inc || s.dots != other.dots || s.hasRing != other.hasRing || !ring.Same(s.ring, other.ring) {
		return false
	}
	for part := range parts {
		if !slices.Equal(s.keys[part], other.keys[part]) {
			return false
		}
	}
	for key, b := range s.bags {
		if !bag.Same(b, other.bags[key]) {
			return false
		}
	}
	return len(s.bags) == len(other.bags)
}

// plain is what a node keeps as the chapter tells it, worked out anew from all
// deeds.
func plain(deeds []api.Deed) state {
	s := state{bags: map[string]api.Bag{}}
	for _, d := range deeds {
		switch d.Kind {
		case 1:
			s.inc = d.N
		case 2:
			s.ring, s.hasRing = d.Ring, true
		case 3:
			s.bags[d.Key] = d.Bag
			if d.N > s.dots {
				s.dots = d.N
			}
		case 4:
			for _, key := range sorted(s.bags) {
				if spot.Of(key) == d.Part {
					delete(s.bags, key)
				}
			}
		}
	}
	for _, key := range sorted(s.bags) {
		s.keys[spot.Of(key)] = append(s.keys[spot.Of(key)], key)
	}
	return s
}

func sorted(bags map[string]api.Bag) []string {
	var l []string
	for key := range bags {
		l = append(l, key)
	}
	slices.Sort(l)
	return l
}

// mustTell fails unless v tells what the deeds of l say.
func mustTell(t *testing.T, v *vault.Vault, l *ledger.Ledger) {
	t.Helper()
	if got, want := stateOf(v), plain(l.All()); !got.isSame(want) {
		t.Fatalf("there is %v, and not %v", got, want)
	}
}

// must fails unless a call answered want.
func must(t *testing.T, name string, got, want api.Errno) {
	t.Helper()
	if got != want {
		t.Fatalf("%s = %d, and not %d", name, got, want)
	}
}

// of is n keys of a part, in ascending order.
func of(part, n int) []string {
	var l []string
	for i := 0; len(l) < n; i++ {
		if key := "k" + strconv.Itoa(i); spot.Of(key) == part {
			l = append(l, key)
		}
	}
	slices.Sort(l)
	return l
}

// some is a bag of a value for each of data, which are writes of node, from its
// first one on.
func some(node int, data ...string) api.Bag {
	b := api.Bag{}
	for i, x := range data {
		b.Known[node] = i + 1
		b.Values = append(b.Values, api.Value{Dot: api.Dot{Node: node, N: i + 1}, Data: x})
	}
	return b
}

// many is a bag of n values of node.
func many(node, n int) api.Bag {
	return some(node, slices.Repeat([]string{"x"}, n)...)
}

func someRing() api.Ring {
	r := api.Ring{Status: [8]int{2, 2, 1, 3, 4, 0, 0, 2}, Plan: api.Plan{Version: 3, By: 1}}
	for part := range parts {
		r.Plan.Targets = append(r.Plan.Targets, part%8)
		r.Parts[part] = api.Entry{Epoch: part + 1, Owner: part % 8}
	}
	return r
}

// first is the ring of a node that is alone, which says less than someRing of
// most, and more of node 5.
func first() api.Ring {
	r := api.Ring{Status: [8]int{5: 2}}
	for part := range parts {
		r.Parts[part] = api.Entry{Epoch: 1, Owner: 5}
	}
	return r
}

func inc(n int) api.Deed {
	return api.Deed{Kind: 1, N: n}
}

func ofRing(r api.Ring) api.Deed {
	return api.Deed{Kind: 2, Ring: r}
}

func ofBag(key string, b api.Bag, n int) api.Deed {
	return api.Deed{Kind: 3, Key: key, Bag: b, N: n}
}

func drop(part int) api.Deed {
	return api.Deed{Kind: 4, Part: part}
}

// written is a ledger with these deeds, and room for so many more.
func written(t *testing.T, room int, deeds ...api.Deed) *ledger.Ledger {
	t.Helper()
	l := ledger.New(len(deeds) + room)
	for _, d := range deeds {
		must(t, "Write", l.Write(d), api.OK)
	}
	return l
}

// crowd is a deed for each of n keys.
func crowd(n int) []api.Deed {
	var l []api.Deed
	for i := range n {
		l = append(l, ofBag("many"+strconv.Itoa(i), some(7, "x"), 0))
	}
	return l
}

// last is the last deed of l.
func last(l *ledger.Ledger) api.Deed {
	all := l.All()
	if len(all) == 0 {
		return api.Deed{}
	}
	return all[len(all)-1]
}

// P18.1: what is there at first.
func TestOpenOfNothing(t *testing.T) {
	if v := vault.Open(nil); v != nil {
		t.Errorf("Open(nil) = %v", v)
	}
	for _, l := range []*ledger.Ledger{ledger.New(9), ledger.New(0), {}} {
		v := vault.Open(l)
		if v == nil {
			t.Fatal("an empty ledger has no vault")
		}
		if got := stateOf(v); !got.isSame(state{}) {
			t.Errorf("an empty ledger tells %v", got)
		}
	}
}

// P18.1: each deed is applied, in order, whatever was there before.
func TestOpen(t *testing.T) {
	a, b := of(3, 2), of(4, 2)
	for _, x := range []struct {
		name  string
		deeds []api.Deed
		want  state
	}{
		{"an incarnation", []api.Deed{inc(7)}, state{inc: 7}},
		{"the last of some, which is less", []api.Deed{inc(7), inc(9), inc(2)}, state{inc: 2}},
		{"back to the first one", []api.Deed{inc(7), inc(0)}, state{}},
		{"a ring", []api.Deed{ofRing(someRing())}, state{ring: someRing(), hasRing: true}},
		{"the last of some, which is not joined", []api.Deed{ofRing(someRing()), ofRing(first())}, state{ring: first(), hasRing: true}},
		{"a ring without anything", []api.Deed{ofRing(api.Ring{})}, state{hasRing: true}},
		{"one after another", []api.Deed{ofRing(someRing()), ofRing(api.Ring{})}, state{hasRing: true}},
		{"a bag", []api.Deed{ofBag(a[0], some(1, "x"), 5)},
			state{dots: 5, keys: [parts][]string{3: {a[0]}}, bags: map[string]api.Bag{a[0]: some(1, "x")}}},
		{"the last of some, which is not joined", []api.Deed{ofBag(a[0], some(1, "x", "y"), 5), ofBag(a[0], some(2, "z"), 6)},
			state{dots: 6, keys: [parts][]string{3: {a[0]}}, bags: map[string]api.Bag{a[0]: some(2, "z")}}},
		{"an empty one", []api.Deed{ofBag(a[0], some(1, "x"), 5), ofBag(a[0], api.Bag{}, 0)},
			state{dots: 5, keys: [parts][]string{3: {a[0]}}, bags: map[string]api.Bag{a[0]: {}}}},
		{"the greatest number", []api.Deed{ofBag(a[0], api.Bag{}, 3), ofBag(a[1], api.Bag{}, top), ofBag(b[0], api.Bag{}, 4)},
			state{dots: top, keys: [parts][]string{3: a, 4: {b[0]}}, bags: map[string]api.Bag{a[0]: {}, a[1]: {}, b[0]: {}}}},
		{"what is no bag has no number", []api.Deed{ofBag(a[0], api.Bag{}, 3), inc(9), drop(3)}, state{inc: 9, dots: 3}},
		{"a part that is dropped", []api.Deed{ofBag(a[0], some(1, "x"), 1), ofBag(a[1], some(1, "x"), 2), ofBag(b[0], some(1, "y"), 3), drop(3)},
			state{dots: 3, keys: [parts][]string{4: {b[0]}}, bags: map[string]api.Bag{b[0]: some(1, "y")}}},
		{"a key that comes back", []api.Deed{ofBag(a[0], some(1, "x"), 1), drop(3), ofBag(a[0], some(2, "z"), 0)},
			state{dots: 1, keys: [parts][]string{3: {a[0]}}, bags: map[string]api.Bag{a[0]: some(2, "z")}}},
		{"a drop of nothing", []api.Deed{drop(3), drop(3)}, state{}},
	} {
		l := written(t, 3, x.deeds...)
		if got := stateOf(vault.Open(l)); !got.isSame(x.want) {
			t.Errorf("%s: there is %v, and not %v", x.name, got, x.want)
		}
		if l.Len() != len(x.deeds) || l.Sure() != 0 {
			t.Errorf("%s: Open left %d deeds, of which %d are sure", x.name, l.Len(), l.Sure())
		}
	}
}

// P18.1: a drop takes the keys of its part, and no others, for each part.
func TestOpenOfEachDrop(t *testing.T) {
	for part := range parts {
		l := written(t, 0, append(crowd(keys), drop(part))...)
		got := stateOf(vault.Open(l))
		for _, d := range crowd(keys) {
			_, is := got.bags[d.Key]
			if is == (spot.Of(d.Key) == part) {
				t.Errorf("drop of %d: %q of %d is there: %v", part, d.Key, spot.Of(d.Key), is)
			}
		}
		if len(got.keys[part]) != 0 || len(got.bags) == 0 {
			t.Errorf("drop of %d left %v", part, got.keys)
		}
	}
}

// P18.1: as many deeds as there may be, and more keys than a node may have,
// are all applied.
func TestOpenOfMany(t *testing.T) {
	l := written(t, 0, crowd(most)...)
	v := vault.Open(l)
	mustTell(t, v, l)
	if got := stateOf(v); len(got.bags) != most {
		t.Errorf("there are %d keys", len(got.bags))
	}
}

// P18.1
func TestSetInc(t *testing.T) {
	for _, n := range numbers() {
		want := api.ErrArg
		if n >= 0 && n <= 1000000 {
			want = api.OK
		}
		l := written(t, 1, inc(7))
		v := vault.Open(l)
		must(t, "SetInc("+strconv.Itoa(n)+")", v.SetInc(n), want)
		if want == api.OK && (v.Inc() != n || l.Len() != 2 || !ledger.Same(last(l), inc(n))) {
			t.Errorf("SetInc(%d): the incarnation is %d, and the deeds are %v", n, v.Inc(), l.All())
		}
		if want != api.OK && (v.Inc() != 7 || l.Len() != 1) {
			t.Errorf("SetInc(%d): the incarnation is %d, and the deeds are %v", n, v.Inc(), l.All())
		}
		full := vault.Open(written(t, 0, inc(7)))
		if want == api.OK {
			want = api.ErrFull
		}
		must(t, "SetInc without room", full.SetInc(n), want)
		if full.Inc() != 7 {
			t.Errorf("SetInc(%d) without room: the incarnation is %d", n, full.Inc())
		}
	}
}

// P18.1: what is set is written each time, be it what it was or less.
func TestSetIncAgain(t *testing.T) {
	l := ledger.New(9)
	v := vault.Open(l)
	for i, n := range []int{0, 4, 4, 3} {
		must(t, "SetInc", v.SetInc(n), api.OK)
		if v.Inc() != n || l.Len() != i+1 {
			t.Errorf("after SetInc(%d) it is %d, and there are %d deeds", n, v.Inc(), l.Len())
		}
	}
}

// P18.1
func TestSetRing(t *testing.T) {
	with := func(change func(r *api.Ring)) api.Ring {
		r := someRing()
		change(&r)
		return r
	}
	for _, x := range []struct {
		name string
		r    api.Ring
		want api.Errno
	}{
		{"a ring", someRing(), api.OK},
		{"one that says less", first(), api.OK},
		{"one without anything", api.Ring{}, api.OK},
		{"the one that was there", with(func(r *api.Ring) { r.Status[0] = 3 }), api.OK},
		{"a wrong status", with(func(r *api.Ring) { r.Status[7] = 5 }), api.ErrArg},
		{"a negative status", with(func(r *api.Ring) { r.Status[0] = -1 }), api.ErrArg},
		{"a wrong owner", with(func(r *api.Ring) { r.Parts[15].Owner = 8 }), api.ErrArg},
		{"a wrong epoch", with(func(r *api.Ring) { r.Parts[0].Epoch = top + 1 }), api.ErrArg},
		{"a wrong version", with(func(r *api.Ring) { r.Plan.Version = 0 }), api.ErrArg},
		{"too few targets", with(func(r *api.Ring) { r.Plan.Targets = r.Plan.Targets[:15] }), api.ErrArg},
		{"a wrong target", with(func(r *api.Ring) { r.Plan.Targets[3] = 8 }), api.ErrArg},
	} {
		before := with(func(r *api.Ring) { r.Status[0] = 3 })
		l := written(t, 1, ofRing(before))
		v := vault.Open(l)
		must(t, x.name, v.SetRing(x.r), x.want)
		want := before
		if x.want == api.OK {
			want = x.r
		}
		if got, ok := v.Ring(); !ok || !ring.Same(got, want) || !ledger.Same(last(l), ofRing(want)) || (l.Len() == 2) != (x.want == api.OK) {
			t.Errorf("%s: the ring is %v, and the deeds are %v", x.name, got, l.All())
		}
		none := vault.Open(ledger.New(0))
		wantFull := x.want
		if x.want == api.OK {
			wantFull = api.ErrFull
		}
		must(t, x.name+" without room", none.SetRing(x.r), wantFull)
		if got, ok := none.Ring(); ok || !ring.Same(got, api.Ring{}) {
			t.Errorf("%s without room: the ring is %v", x.name, got)
		}
	}
}

// P18.1: Sync is that of the ledger, and nothing else makes a deed sure.
func TestSync(t *testing.T) {
	l := ledger.New(99)
	v := vault.Open(l)
	calls := func() {
		v.SetInc(3)
		v.SetRing(someRing())
		v.Put(0, "nest", api.Vector{}, "twig")
		v.Put(0, "nest", api.Vector{}, "leaf")
		v.Merge("nest", some(4, "moss"))
		v.Drop(spot.Of("nest"))
	}
	calls()
	stateOf(v)
	if l.Len() != 6 || l.Sure() != 0 {
		t.Errorf("of %d deeds %d are sure", l.Len(), l.Sure())
	}
	if got := v.Sync(); got != 6 || l.Sure() != 6 {
		t.Errorf("Sync = %d, and %d are sure", got, l.Sure())
	}
	if got := v.Sync(); got != 0 || l.Sure() != 6 {
		t.Errorf("Sync again = %d, and %d are sure", got, l.Sure())
	}
	calls()
	l.Write(inc(4))
	if got := v.Sync(); got != 7 || l.Len() != 13 || l.Sure() != 13 {
		t.Errorf("Sync = %d, and %d of %d are sure", got, l.Sure(), l.Len())
	}
}

// P18.2
func TestBag(t *testing.T) {
	long := strings.Repeat("k", 32)
	v := vault.Open(written(t, 0, ofBag("nest", some(1, "x"), 1), ofBag(long, some(2, "y"), 1), ofBag("\xff\x00", some(3, "z"), 1)))
	for _, x := range []struct {
		key  string
		want api.Bag
	}{
		{"nest", some(1, "x")}, {long, some(2, "y")}, {"\xff\x00", some(3, "z")},
		{"nes", api.Bag{}}, {"nest ", api.Bag{}}, {"Nest", api.Bag{}}, {"\xff", api.Bag{}}, {long[1:], api.Bag{}},
	} {
		if got := v.Bag(x.key); !bag.Same(got, x.want) {
			t.Errorf("Bag(%q) = %v", x.key, got)
		}
	}
	for _, key := range odd() {
		if got := v.Bag(key); !bag.Same(got, api.Bag{}) {
			t.Errorf("Bag(%q) = %v", key, got)
		}
	}
	if got := stateOf(v); len(got.bags) != 3 {
		t.Errorf("Bag left %v", got)
	}
}

// P18.2: the keys of each part, byte by byte, and of no part none.
func TestKeys(t *testing.T) {
	l := ledger.New(most)
	v := vault.Open(l)
	var all []string
	for i := range keys {
		// Of numbers, the order of the bytes is not that of what they say, and
		// bytes are not signed.
		key := strconv.Itoa(i*i) + "\xff\x7f\x80a"[i%4:i%4+1]
		all = append(all, key)
		if _, errno := v.Put(i%nodes, key, api.Vector{}, "x"); errno != api.OK {
			t.Fatalf("Put = %d", errno)
		}
	}
	count := 0
	for part := range parts {
		got := v.Keys(part)
		count += len(got)
		for i, key := range got {
			if spot.Of(key) != part || !slices.Contains(all, key) || i > 0 && got[i-1] >= key {
				t.Errorf("Keys(%d) = %q", part, got)
			}
		}
	}
	if count != keys {
		t.Errorf("there are %d keys", count)
	}
	for _, part := range numbers() {
		if got := v.Keys(part); (part < 0 || part > 15) && len(got) != 0 {
			t.Errorf("Keys(%d) = %q", part, got)
		}
	}
}

// P18.2: the example of the chapter.
func TestPutAndBag(t *testing.T) {
	v := vault.Open(ledger.New(3))
	d, errno := v.Put(0, "k", api.Vector{}, "a")
	if d != (api.Dot{Node: 0, N: 1}) || errno != api.OK || !bag.Same(v.Bag("k"), some(0, "a")) {
		t.Errorf("Put = %v, %d, and the bag is %v", d, errno, v.Bag("k"))
	}
}

// P18.2: each write has the next number, whatever its key and its node are, and
// its deed says so.
func TestPut(t *testing.T) {
	l := ledger.New(99)
	v := vault.Open(l)
	for i, x := range []struct {
		node        int
		key         string
		known       api.Vector
		data        string
		knows, wrot string // what is known, and what there is, after it
	}{
		{2, "nest", api.Vector{}, "a", "00100000", "2.1a"},
		{2, "nest", api.Vector{}, "b", "00200000", "2.1a 2.2b"},
		{2, "egg", api.Vector{}, "c", "00300000", "2.3c"},
		{0, "nest", api.Vector{0, 0, 1}, "d", "40200000", "0.4d 2.2b"},
		{7, "egg", api.Vector{0, 0, 9}, "", "00900005", "7.5"},
		{7, "egg", api.Vector{0, 0, 9, 0, 0, 0, 0, 5}, "f", "00900006", "7.6f"},
		{7, strings.Repeat("k", 32), api.Vector{}, strings.Repeat("x", 64), "00000007", "7.7" + strings.Repeat("x", 64)},
		{0, "\xff\x00", api.Vector{1, 2, 3, 4, 5, 6, 7, 8}, "\x00\xff", "82345678", "0.8\x00\xff"},
	} {
		d, errno := v.Put(x.node, x.key, x.known, x.data)
		if errno != api.OK || d != (api.Dot{Node: x.node, N: i + 1}) || v.Dots() != i+1 {
			t.Errorf("%d: Put = %v, %d, and Dots are %d", i, d, errno, v.Dots())
		}
		b := v.Bag(x.key)
		knows, wrot := "", []string{}
		for _, n := range b.Known {
			knows += strconv.Itoa(n)
		}
		for _, value := range b.Values {
			wrot = append(wrot, strconv.Itoa(value.Dot.Node)+"."+strconv.Itoa(value.Dot.N)+value.Data)
		}
		if knows != x.knows || strings.Join(wrot, " ") != x.wrot {
			t.Errorf("%d: the bag is %v", i, b)
		}
		if l.Len() != i+1 || !ledger.Same(last(l), ofBag(x.key, b, i+1)) {
			t.Errorf("%d: the deed is %v", i, last(l))
		}
	}
	mustTell(t, v, l)
}

// P18.2: the errors of Put, in their order; nothing has changed beside them.
func TestPutErrors(t *testing.T) {
	nest := ofBag("nest", some(7, "x"), 3)
	over := ofBag("nest", some(7, "x"), top)
	most := ofBag("nest", many(7, bagFull), 3)
	known, wrong, none := api.Vector{7: 1}, api.Vector{-1}, api.Vector{}
	ahead := ofBag("nest", api.Bag{Known: api.Vector{4}}, 3) // which knows the write that is to come
	long := strings.Repeat("x", 65)
	full := append(crowd(keys-1), nest)
	fullAndOver := append(crowd(keys-1), over)
	for _, x := range []struct {
		name  string
		deeds []api.Deed
		room  int
		node  int
		key   string
		known api.Vector
		data  string
		want  api.Errno
	}{
		{"nothing is wrong", []api.Deed{nest}, 1, 0, "nest", none, "a", api.OK},
		{"a node before the first", []api.Deed{nest}, 1, -1, "nest", none, "a", api.ErrArg},
		{"a node after the last", []api.Deed{nest}, 1, 8, "nest", none, "a", api.ErrArg},
		{"a node that is 1 in fewer bits", []api.Deed{nest}, 1, 257, "nest", none, "a", api.ErrArg},
		{"the greatest number as a node", []api.Deed{nest}, 1, math.MaxInt, "nest", none, "a", api.ErrArg},
		{"no key", []api.Deed{nest}, 1, 0, "", none, "a", api.ErrArg},
		{"a key that is too long", []api.Deed{nest}, 1, 0, strings.Repeat("k", 33), none, "a", api.ErrArg},
		{"no node ahead of no number left", []api.Deed{over}, 1, 8, "nest", none, "a", api.ErrArg},
		{"no key ahead of no number left", []api.Deed{over}, 1, 0, "", none, "a", api.ErrArg},

		{"no number left", []api.Deed{over}, 1, 0, "nest", none, "a", api.ErrOver},
		{"one number left", []api.Deed{ofBag("nest", some(7, "x"), top-1)}, 1, 0, "nest", none, "a", api.OK},
		{"no number left ahead of too many keys", fullAndOver, 1, 0, "more", none, "a", api.ErrOver},
		{"no number left ahead of a wrong vector", []api.Deed{over}, 1, 0, "nest", wrong, "a", api.ErrOver},
		{"no number left ahead of no room", []api.Deed{over}, 0, 0, "nest", none, "a", api.ErrOver},

		{"one key too many", full, 1, 0, "more", none, "a", api.ErrFull},
		{"far too many keys", crowd(keys + 50), 1, 0, "more", none, "a", api.ErrFull},
		{"the last key that may be", crowd(keys - 1), 1, 0, "more", none, "a", api.OK},
		{"a key that is there beside all others", full, 1, 0, "nest", none, "a", api.OK},
		{"too many keys, one of which is meant", crowd(keys + 50), 1, 0, "many7", none, "a", api.OK},
		{"a key more after a drop", append(slices.Clone(full), drop(spot.Of("nest"))), 1, 0, "more", none, "a", api.OK},
		{"too many keys ahead of a wrong vector", full, 1, 0, "more", wrong, "a", api.ErrFull},
		{"too many keys ahead of too many bytes", full, 1, 0, "more", none, long, api.ErrFull},

		{"a negative number that is known", []api.Deed{nest}, 1, 0, "nest", wrong, "a", api.ErrArg},
		{"a number that is too great", []api.Deed{nest}, 1, 0, "nest", api.Vector{top + 1}, "a", api.ErrArg},
		{"too many bytes", []api.Deed{nest}, 1, 0, "nest", none, long, api.ErrArg},
		{"a dot that is known", []api.Deed{ahead}, 1, 0, "nest", none, "a", api.ErrArg},
		{"one that is not known", []api.Deed{ahead}, 1, 1, "nest", none, "a", api.OK},
		{"too many values", []api.Deed{most}, 1, 0, "nest", none, "a", api.ErrFull},
		{"as many as there may be", []api.Deed{most}, 1, 0, "nest", known, "a", api.OK},
		{"a wrong vector ahead of too many values", []api.Deed{most}, 1, 0, "nest", wrong, "a", api.ErrArg},
		{"a wrong vector ahead of no room", []api.Deed{nest}, 0, 0, "nest", wrong, "a", api.ErrArg},
		{"too many bytes ahead of no room", []api.Deed{nest}, 0, 0, "nest", none, long, api.ErrArg},
		{"a dot that is known ahead of no room", []api.Deed{ahead}, 0, 0, "nest", none, "a", api.ErrArg},

		{"no room", []api.Deed{nest}, 0, 0, "nest", none, "a", api.ErrFull},
		{"no room for a new key", []api.Deed{nest}, 0, 0, "more", none, "a", api.ErrFull},
	} {
		l := written(t, x.room, x.deeds...)
		v := vault.Open(l)
		before := stateOf(v)
		d, errno := v.Put(x.node, x.key, x.known, x.data)
		must(t, x.name, errno, x.want)
		mustTell(t, v, l)
		if errno == api.OK {
			if d != (api.Dot{Node: x.node, N: before.dots + 1}) || v.Dots() != d.N || l.Len() != len(x.deeds)+1 {
				t.Errorf("%s: Put = %v, Dots are %d, and there are %d deeds", x.name, d, v.Dots(), l.Len())
			}
			continue
		}
		if d != (api.Dot{}) || !stateOf(v).isSame(before) || l.Len() != len(x.deeds) {
			t.Errorf("%s: Put = %v, and there is %v", x.name, d, stateOf(v))
		}
	}
}

// P18.2: Merge, what it answers and what it writes.
func TestMerge(t *testing.T) {
	long := strings.Repeat("k", 33)
	nest := ofBag("nest", some(7, "x"), 3)
	full := append(crowd(keys-1), nest)
	notValid := api.Bag{Values: some(1, "y").Values} // its value is not known
	both := api.Bag{Known: api.Vector{1: 1, 7: 1}, Values: append(some(1, "y").Values, some(7, "x").Values...)}
	replaced := api.Bag{Known: api.Vector{2: 5, 7: 4}, Values: []api.Value{{Dot: api.Dot{Node: 2, N: 5}, Data: "z"}}}
	for _, x := range []struct {
		name  string
		deeds []api.Deed
		room  int
		key   string
		b     api.Bag
		errno api.Errno
		wrote bool
		want  api.Bag // of the key, after it
	}{
		{"a new key", []api.Deed{nest}, 1, "egg", some(1, "y"), api.OK, true, some(1, "y")},
		{"a new key of which is only known", []api.Deed{nest}, 1, "egg", api.Bag{Known: api.Vector{4}}, api.OK, true, api.Bag{Known: api.Vector{4}}},
		{"a value beside another", []api.Deed{nest}, 1, "nest", some(1, "y"), api.OK, true, both},
		{"a value in place of another", []api.Deed{nest}, 1, "nest", replaced, api.OK, true, replaced},
		{"a value that was replaced", []api.Deed{ofBag("nest", replaced, 3)}, 1, "nest", some(7, "x"), api.OK, false, replaced},
		{"what is there", []api.Deed{nest}, 1, "nest", some(7, "x"), api.OK, false, some(7, "x")},
		{"what is there, without room", []api.Deed{nest}, 0, "nest", some(7, "x"), api.OK, false, some(7, "x")},
		{"nothing", []api.Deed{nest}, 1, "nest", api.Bag{}, api.OK, false, some(7, "x")},
		{"nothing, of a new key", []api.Deed{nest}, 1, "egg", api.Bag{}, api.OK, false, api.Bag{}},
		{"nothing, of a new key, without room", []api.Deed{nest}, 0, "egg", api.Bag{}, api.OK, false, api.Bag{}},
		{"an empty list", []api.Deed{nest}, 0, "nest", api.Bag{Values: []api.Value{}}, api.OK, false, some(7, "x")},
		{"as many values as there may be", []api.Deed{nest}, 1, "egg", many(1, bagFull), api.OK, true, many(1, bagFull)},
		{"a key that is there beside all others", full, 1, "nest", some(1, "y"), api.OK, true, both},
		{"the last key that may be", crowd(keys - 1), 1, "nest", some(7, "x"), api.OK, true, some(7, "x")},

		{"no key", []api.Deed{nest}, 1, "", some(1, "y"), api.ErrArg, false, api.Bag{}},
		{"a key that is too long", []api.Deed{nest}, 1, long, some(1, "y"), api.ErrArg, false, api.Bag{}},
		{"no key, and nothing", []api.Deed{nest}, 1, "", api.Bag{}, api.ErrArg, false, api.Bag{}},
		{"a bag that is not valid", []api.Deed{nest}, 1, "nest", notValid, api.ErrArg, false, some(7, "x")},
		{"a wrong number", []api.Deed{nest}, 1, "nest", api.Bag{Known: api.Vector{-1}}, api.ErrArg, false, some(7, "x")},
		{"more values than there may be", []api.Deed{nest}, 1, "egg", many(1, bagFull+1), api.ErrArg, false, api.Bag{}},
		{"too many bytes", []api.Deed{nest}, 1, "nest", some(1, strings.Repeat("y", 65)), api.ErrArg, false, some(7, "x")},
		{"a wrong bag ahead of too many keys", full, 1, "more", notValid, api.ErrArg, false, api.Bag{}},
		{"a wrong bag ahead of no room", []api.Deed{nest}, 0, "nest", notValid, api.ErrArg, false, some(7, "x")},

		{"one key too many", full, 1, "more", some(1, "y"), api.ErrFull, false, api.Bag{}},
		{"far too many keys", crowd(keys + 50), 1, "more", some(1, "y"), api.ErrFull, false, api.Bag{}},
		{"one key too many, and nothing", full, 1, "more", api.Bag{}, api.ErrFull, false, api.Bag{}},
		{"too many values together", []api.Deed{nest}, 1, "nest", many(1, bagFull), api.ErrFull, false, some(7, "x")},
		{"no room", []api.Deed{nest}, 0, "nest", some(1, "y"), api.ErrFull, false, some(7, "x")},
		{"no room for a new key", []api.Deed{nest}, 0, "egg", some(1, "y"), api.ErrFull, false, api.Bag{}},
	} {
		l := written(t, x.room, x.deeds...)
		v := vault.Open(l)
		before := stateOf(v)
		must(t, x.name, v.Merge(x.key, x.b), x.errno)
		mustTell(t, v, l)
		if !bag.Same(v.Bag(x.key), x.want) || v.Dots() != before.dots {
			t.Errorf("%s: the bag is %v, and Dots are %d", x.name, v.Bag(x.key), v.Dots())
		}
		if x.wrote && (l.Len() != len(x.deeds)+1 || !ledger.Same(last(l), ofBag(x.key, x.want, before.dots))) {
			t.Errorf("%s: the deeds are %v", x.name, l.All())
		}
		if !x.wrote && (l.Len() != len(x.deeds) || !stateOf(v).isSame(before)) {
			t.Errorf("%s: there is %v", x.name, stateOf(v))
		}
	}
}

// P18.2: a Merge gives no dots away, and may come where no number is left, or
// know writes of the node itself that it does not know of any more.
func TestMergeAndDots(t *testing.T) {
	l := written(t, 5, ofBag("nest", api.Bag{}, top))
	v := vault.Open(l)
	must(t, "Merge", v.Merge("nest", some(1, "y")), api.OK)
	if v.Dots() != top || last(l).N != top {
		t.Errorf("Dots are %d, and the deed is %v", v.Dots(), last(l))
	}
	v = vault.Open(ledger.New(5))
	must(t, "Merge", v.Merge("nest", api.Bag{Known: api.Vector{9}}), api.OK)
	if v.Dots() != 0 {
		t.Errorf("Dots are %d", v.Dots())
	}
	if d, errno := v.Put(0, "nest", api.Vector{}, "x"); d != (api.Dot{}) || errno != api.ErrArg || v.Dots() != 0 {
		t.Errorf("Put of a dot that is known = %v, %d", d, errno)
	}
	if d, errno := v.Put(0, "egg", api.Vector{}, "x"); d != (api.Dot{Node: 0, N: 1}) || errno != api.OK {
		t.Errorf("Put = %v, %d", d, errno)
	}
}

// P18.2: what was merged is Below the bag, so that it is not written again, even
// if it says something else of a dot.
func TestMergedIsBelow(t *testing.T) {
	l := ledger.New(9)
	v := vault.Open(l)
	for i, b := range []api.Bag{some(1, "x"), some(1, "y"), some(2, "z")} {
		for range 3 {
			must(t, "Merge", v.Merge("nest", b), api.OK)
			if !bag.Below(b, v.Bag("nest")) || l.Len() != i+1 {
				t.Errorf("%d: of %v there is %v, and there are %d deeds", i, b, v.Bag("nest"), l.Len())
			}
		}
	}
}

// P18.2
func TestDrop(t *testing.T) {
	deeds := append(crowd(keys), inc(5), ofRing(someRing()), ofBag("many0", some(1, "x"), 7))
	for _, part := range numbers() {
		isPart := part >= 0 && part <= 15
		l := written(t, 1, deeds...)
		v := vault.Open(l)
		before := stateOf(v)
		want := api.ErrArg
		if isPart {
			want = api.OK
		}
		must(t, "Drop", v.Drop(part), want)
		mustTell(t, v, l)
		if !isPart && (l.Len() != len(deeds) || !stateOf(v).isSame(before)) {
			t.Errorf("Drop(%d) left %v", part, stateOf(v))
		}
		if isPart && (l.Len() != len(deeds)+1 || !ledger.Same(last(l), drop(part)) || len(v.Keys(part)) != 0 || v.Dots() != 7 || v.Inc() != 5) {
			t.Errorf("Drop(%d) wrote %v, and left %v", part, last(l), stateOf(v))
		}
		// There is no room any more, and nothing to be dropped.
		if isPart {
			must(t, "Drop again", v.Drop(part), api.OK)
			mustTell(t, v, l)
		}
	}
}

// P18.2: a part without keys needs no room; one with a key does, even if its
// bag is empty.
func TestDropWithoutRoom(t *testing.T) {
	empty := ofBag("nest", api.Bag{}, 0)
	part := spot.Of("nest")
	l := written(t, 0, empty)
	v := vault.Open(l)
	for other := range parts {
		if other != part {
			must(t, "Drop of nothing", v.Drop(other), api.OK)
		}
	}
	must(t, "Drop without room", v.Drop(part), api.ErrFull)
	if got := v.Keys(part); l.Len() != 1 || !slices.Equal(got, []string{"nest"}) {
		t.Errorf("the keys are %q, and there are %d deeds", got, l.Len())
	}
	l = written(t, 1, empty)
	v = vault.Open(l)
	must(t, "Drop", v.Drop(part), api.OK)
	if got := v.Keys(part); l.Len() != 2 || len(got) != 0 {
		t.Errorf("the keys are %q, and there are %d deeds", got, l.Len())
	}
}

// anyKey is one of the few keys that the drawn calls use, or seldom one that is
// not valid.
func anyKey(r *rand.Rand) string {
	if r.Intn(20) == 0 {
		return odd()[r.Intn(len(odd()))]
	}
	return "key" + strconv.Itoa(r.Intn(12))
}

// anyVector knows a few writes, or seldom is not valid.
func anyVector(r *rand.Rand) api.Vector {
	v := api.Vector{}
	for node := range v {
		v[node] = r.Intn(9)
	}
	if r.Intn(20) == 0 {
		v[r.Intn(nodes)] = numbers()[r.Intn(len(numbers()))]
	}
	return v
}

// anyBag is what a few writes come to.
func anyBag(r *rand.Rand) api.Bag {
	b := api.Bag{}
	for range r.Intn(4) {
		d := api.Dot{Node: r.Intn(nodes), N: 1 + r.Intn(40)}
		if next, errno := bag.Put(b, api.Vector{}, d, "m"+strconv.Itoa(r.Intn(5))); errno == api.OK {
			b = next
		}
	}
	if r.Intn(20) == 0 {
		b.Known = anyVector(r)
	}
	return b
}

// asked is what a call is to answer by the chapter, and the deed that it is to
// write, none if its Kind is 0.
type asked struct {
	errno api.Errno
	dot   api.Dot
	deed  api.Deed
}

// wish is what Write of the deed answers, which a call answers too.
func wish(l *ledger.Ledger, d api.Deed, dot api.Dot) asked {
	if !ledger.May(d) {
		return asked{errno: api.ErrArg}
	}
	if l.Room() == 0 {
		return asked{errno: api.ErrFull}
	}
	return asked{dot: dot, deed: d}
}

func isKey(key string) bool {
	return len(key) >= 1 && len(key) <= 32
}

func (s state) isCrowded(key string) bool {
	_, is := s.bags[key]
	return !is && len(s.bags) >= 200
}

func (s state) wishPut(l *ledger.Ledger, node int, key string, known api.Vector, data string) asked {
	switch {
	case node < 0 || node > 7 || !isKey(key):
		return asked{errno: api.ErrArg}
	case s.dots == 1000000:
		return asked{errno: api.ErrOver}
	case s.isCrowded(key):
		return asked{errno: api.ErrFull}
	}
	d := api.Dot{Node: node, N: s.dots + 1}
	b, errno := bag.Put(s.bags[key], known, d, data)
	if errno != api.OK {
		return asked{errno: errno}
	}
	return wish(l, ofBag(key, b, d.N), d)
}

func (s state) wishMerge(l *ledger.Ledger, key string, b api.Bag) asked {
	switch {
	case !isKey(key) || !bag.May(b):
		return asked{errno: api.ErrArg}
	case s.isCrowded(key):
		return asked{errno: api.ErrFull}
	}
	sum, errno := bag.Join(b, s.bags[key])
	if errno != api.OK {
		return asked{errno: errno}
	}
	if bag.Below(b, s.bags[key]) {
		return asked{}
	}
	return wish(l, ofBag(key, sum, s.dots), api.Dot{})
}

func (s state) wishDrop(l *ledger.Ledger, part int) asked {
	if part < 0 || part > 15 {
		return asked{errno: api.ErrArg}
	}
	if len(s.keys[part]) == 0 {
		return asked{}
	}
	return wish(l, drop(part), api.Dot{})
}

// call does a drawn one on v, and returns what it answered, and what it is to
// answer.
func call(r *rand.Rand, v *vault.Vault, l *ledger.Ledger) (got, want asked) {
	s := plain(l.All())
	switch r.Intn(12) {
	case 0:
		n := numbers()[r.Intn(len(numbers()))]
		want = wish(l, inc(n), api.Dot{})
		got.errno = v.SetInc(n)
	case 1:
		ring := someRing()
		ring.Status[r.Intn(nodes)] = r.Intn(6)
		want = wish(l, ofRing(ring), api.Dot{})
		got.errno = v.SetRing(ring)
	case 2:
		part := r.Intn(parts+2) - 1
		want = s.wishDrop(l, part)
		got.errno = v.Drop(part)
	case 3, 4, 5, 6:
		key, b := anyKey(r), anyBag(r)
		want = s.wishMerge(l, key, b)
		got.errno = v.Merge(key, b)
	default:
		node, key, known, data := r.Intn(nodes), anyKey(r), anyVector(r), "x"+strconv.Itoa(r.Intn(5))
		if r.Intn(20) == 0 {
			node, data = r.Intn(40)-20, strings.Repeat("y", 60+r.Intn(9))
		}
		want = s.wishPut(l, node, key, known, data)
		got.dot, got.errno = v.Put(node, key, known, data)
	}
	return got, want
}

// P18.1, P18.2: every call answers and writes what the chapter says.
func TestDrawnCalls(t *testing.T) {
	r := rand.New(rand.NewSource(1))
	answers := map[api.Errno]int{}
	for range 150 {
		l := ledger.New(r.Intn(90))
		v := vault.Open(l)
		for range 80 {
			before := l.All()
			got, want := call(r, v, l)
			answers[got.errno]++
			if got.errno != want.errno || got.dot != want.dot {
				t.Fatalf("%v was told, and not %v", got, want)
			}
			after := before
			if want.deed.Kind != 0 {
				after = append(after, want.deed)
			}
			if !slices.EqualFunc(l.All(), after, ledger.Same) || l.Sure() != 0 {
				t.Fatalf("%v was told, and %v were written in place of %v", got, l.All(), after)
			}
			mustTell(t, v, l)
		}
	}
	if answers[api.OK] < 3000 || answers[api.ErrArg] < 500 || answers[api.ErrFull] < 500 {
		t.Errorf("%v were told", answers)
	}
}

// P18.3, T1, T3: whatever happened, and wherever it was cut off, a vault that is
// opened anew is what it was after its last deed that stayed.
func TestOpenAfterACrash(t *testing.T) {
	r := rand.New(rand.NewSource(2))
	for range 100 {
		l := ledger.New(200)
		v := vault.Open(l)
		was := map[int]state{0: stateOf(v)} // by the number of deeds
		for range 120 {
			switch r.Intn(14) {
			case 0:
				v.Sync()
			case 1:
				sure, unsure, stay := l.Sure(), l.Len()-l.Sure(), r.Intn(6)-1
				l.Crash(stay)
				v = vault.Open(l)
				if l.Len() != sure+min(max(stay, 0), unsure) {
					t.Fatalf("%d and %d became %d", sure, unsure, l.Len())
				}
			default:
				call(r, v, l)
				was[l.Len()] = stateOf(v)
			}
			if got := stateOf(v); !got.isSame(was[l.Len()]) {
				t.Fatalf("there is %v, and not %v", got, was[l.Len()])
			}
			if !stateOf(vault.Open(l)).isSame(stateOf(v)) {
				t.Fatalf("opened anew, there is not %v", stateOf(v))
			}
		}
	}
}

// P18.3, T3: what is sure stays, and what is not goes, call by call.
func TestWhatIsSureStays(t *testing.T) {
	nest := spot.Of("nest")
	for _, x := range []struct {
		name string
		do   func(v *vault.Vault) api.Errno
	}{
		{"SetInc", func(v *vault.Vault) api.Errno { return v.SetInc(9) }},
		{"SetRing", func(v *vault.Vault) api.Errno { return v.SetRing(someRing()) }},
		{"Put", func(v *vault.Vault) api.Errno { _, errno := v.Put(3, "nest", api.Vector{}, "b"); return errno }},
		{"Put of a new key", func(v *vault.Vault) api.Errno { _, errno := v.Put(3, "egg", api.Vector{}, "b"); return errno }},
		{"Merge", func(v *vault.Vault) api.Errno { return v.Merge("nest", some(4, "c")) }},
		{"Drop", func(v *vault.Vault) api.Errno { return v.Drop(nest) }},
	} {
		l := written(t, 9, inc(1), ofRing(first()), ofBag("nest", some(3, "a"), 1))
		l.Sync()
		v := vault.Open(l)
		before := stateOf(v)
		must(t, x.name, x.do(v), api.OK)
		after := stateOf(v)
		if after.isSame(before) {
			t.Errorf("%s changed nothing", x.name)
		}
		if got := stateOf(vault.Open(l)); !got.isSame(after) {
			t.Errorf("%s: opened anew, there is %v", x.name, got)
		}
		l.Crash(0)
		v = vault.Open(l)
		if got := stateOf(v); !got.isSame(before) {
			t.Errorf("%s, and a crash: there is %v", x.name, got)
		}
		must(t, x.name, x.do(v), api.OK)
		v.Sync()
		l.Crash(0)
		if got := stateOf(vault.Open(l)); !got.isSame(after) {
			t.Errorf("%s, Sync, and a crash: there is %v", x.name, got)
		}
	}
}

// overwrite changes l, and the memory behind it.
func overwrite[T any](l []T, x T) {
	l = l[:cap(l)]
	for i := range l {
		l[i] = x
	}
}

// spoil changes everything that a bag has in a list.
func spoil(b api.Bag) {
	overwrite(b.Values, api.Value{Dot: api.Dot{Node: -7, N: -7}, Data: "spoiled"})
}

// P18.1, P18.2, R2: a vault gives away none of its memory, and takes none of its ledger's.
func TestResultsAreNewMemory(t *testing.T) {
	l := written(t, 9, ofRing(someRing()), ofBag("nest", some(1, "x", "y"), 2))
	v := vault.Open(l)
	if _, errno := v.Put(2, "egg", api.Vector{}, "z"); errno != api.OK {
		t.Fatalf("Put = %d", errno)
	}
	must(t, "Merge", v.Merge("nest", some(3, "m")), api.OK)
	must(t, "Merge", v.Merge("twig", some(3, "m")), api.OK)
	// The ring is once the one that Open met, and once the one that was set.
	for range 2 {
		for _, key := range []string{"nest", "egg", "twig"} {
			spoil(v.Bag(key))
			overwrite(v.Keys(spot.Of(key)), "spoiled")
		}
		r, _ := v.Ring()
		overwrite(r.Plan.Targets, -7)
		for _, d := range l.All() {
			spoil(d.Bag)
			overwrite(d.Ring.Plan.Targets, -7)
		}
		mustTell(t, v, l)
		must(t, "SetRing", v.SetRing(someRing()), api.OK)
	}
	if got, ok := v.Ring(); !ok || !ring.Same(got, someRing()) {
		t.Errorf("the ring is %v", got)
	}
	if got, want := v.Bag("nest"), []string{"x", "y", "m"}; !slices.Equal(bag.Texts(got), want) {
		t.Errorf("the bag is %v", got)
	}
}

// P18.1, P18.2, R2: arguments are neither changed nor retained, and what lies
// beyond their lists is neither read nor written.
func TestArgumentsStay(t *testing.T) {
	values := append(some(1, "x", "y").Values, api.Value{Dot: api.Dot{Node: 9, N: -1}, Data: "beyond"}, api.Value{})
	targets := append(someRing().Plan.Targets, 9, -1)
	b, r := some(1, "x", "y"), someRing()
	b.Values, r.Plan.Targets = values[:2], targets[:16]
	moreValues, moreTargets := slices.Clone(values), slices.Clone(targets)
	l := written(t, 9, ofBag("egg", some(0, "a"), 0))
	v := vault.Open(l)
	must(t, "Merge", v.Merge("nest", b), api.OK)
	must(t, "Merge", v.Merge("egg", b), api.OK)
	must(t, "SetRing", v.SetRing(r), api.OK)
	if _, errno := v.Put(1, "nest", api.Vector{1: 1}, "z"); errno == api.OK {
		t.Error("a dot that is known was given away")
	}
	if _, errno := v.Put(2, "nest", api.Vector{1: 1}, "z"); errno != api.OK {
		t.Errorf("Put = %d", errno)
	}
	if !slices.Equal(values, moreValues) || !slices.Equal(targets, moreTargets) {
		t.Errorf("the arguments became %v and %v", values, targets)
	}
	overwrite(values, api.Value{Data: "spoiled"})
	overwrite(targets, -7)
	mustTell(t, v, l)
	if got, ok := v.Ring(); !ok || !ring.Same(got, someRing()) {
		t.Errorf("the ring is %v", got)
	}
	if got := v.Bag("egg"); !bag.Same(got, api.Bag{Known: api.Vector{1, 2}, Values: append(some(0, "a").Values, some(1, "x", "y").Values...)}) {
		t.Errorf("the bag is %v", got)
	}
}

// P18.2, R3: of a nil vault nothing is told, and it takes nothing; one that Open
// did not make has nothing, and nowhere to write.
func TestNoVault(t *testing.T) {
	for _, v := range []*vault.Vault{nil, {}} {
		for range 2 {
			d, errno := v.Put(0, "nest", api.Vector{}, "x")
			if d != (api.Dot{}) || errno != api.ErrArg {
				t.Errorf("Put = %v, %d", d, errno)
			}
			must(t, "SetInc", v.SetInc(1), api.ErrArg)
			must(t, "SetRing", v.SetRing(someRing()), api.ErrArg)
			must(t, "Merge", v.Merge("nest", some(1, "x")), api.ErrArg)
			if v.Sync() != 0 || !stateOf(v).isSame(state{}) || !bag.Same(v.Bag("nest"), api.Bag{}) {
				t.Errorf("there is %v", stateOf(v))
			}
		}
	}
	var none *vault.Vault
	for _, n := range numbers() {
		must(t, "Drop", none.Drop(n), api.ErrArg)
		must(t, "SetInc", none.SetInc(n), api.ErrArg)
		if got := none.Keys(n); len(got) != 0 {
			t.Errorf("Keys(%d) = %q", n, got)
		}
	}
	must(t, "Merge", none.Merge("", api.Bag{}), api.ErrArg)
	must(t, "Merge", none.Merge("nest", api.Bag{}), api.ErrArg)
}

// P18.1, P18.2, R3: what is far too long is refused.
func TestFarTooMany(t *testing.T) {
	l := ledger.New(9)
	v := vault.Open(l)
	must(t, "Merge", v.Merge("nest", api.Bag{Values: make([]api.Value, 1<<18)}), api.ErrArg)
	must(t, "Merge", v.Merge(strings.Repeat("k", 1<<20), api.Bag{}), api.ErrArg)
	r := someRing()
	r.Plan.Targets = make([]int, 1<<18)
	must(t, "SetRing", v.SetRing(r), api.ErrArg)
	_, errno := v.Put(0, "nest", api.Vector{}, strings.Repeat("x", 1<<20))
	must(t, "Put", errno, api.ErrArg)
	if l.Len() != 0 {
		t.Errorf("there are %d deeds", l.Len())
	}
}

// P18.1, R6: a vault depends on its ledger alone, and vaults have nothing to do with
// one another.
func TestVaultsAreApart(t *testing.T) {
	var all sync.WaitGroup
	for worker := range 4 {
		all.Go(func() {
			l := ledger.New(50)
			v := vault.Open(l)
			for i := range 20 {
				key := "key" + strconv.Itoa(i%3)
				d, errno := v.Put(worker, key, v.Bag(key).Known, strconv.Itoa(worker))
				if errno != api.OK || d != (api.Dot{Node: worker, N: i + 1}) {
					t.Errorf("worker %d: Put = %v, %d", worker, d, errno)
				}
			}
			if got := stateOf(v); !got.isSame(plain(l.All())) || len(got.bags) != 3 || v.Dots() != 20 {
				t.Errorf("worker %d: there is %v", worker, got)
			}
		})
	}
	all.Wait()
}
