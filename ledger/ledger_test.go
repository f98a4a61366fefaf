package ledger_test

import (
	"math"
	"math/rand"
	"slices"
	"strings"
	"sync"
	"testing"

	"starling/api"
	"starling/ledger"
)

const (
	top  = 1000000 // the last incarnation, and the last number
	most = 3000    // deeds of a ledger
)

// numbers are those at which a call may answer otherwise, and their neighbours,
// and numbers that are one of them in fewer bits.
func numbers() []int {
	return []int{
		math.MinInt, math.MinInt + 1, -1 << 32, -top, -256, -16, -2, -1, 0, 1, 2, 3, 4, 5, 6, 7, 8, 9, 14, 15, 16, 17,
		255, 256, 259, 65536, top - 1, top, top + 1, 1 << 32, 1<<32 + 1, math.MaxInt - 1, math.MaxInt,
	}
}

// someBag is a valid bag, and someRing a valid ring, that say something of
// every kind.
func someBag() api.Bag {
	return api.Bag{
		Known:  api.Vector{3, 0, 6, 0, 0, top, 0, 1},
		Values: []api.Value{{Dot: api.Dot{Node: 0, N: 2}, Data: "twig"}, {Dot: api.Dot{Node: 5, N: top}, Data: "leaf"}},
	}
}

func someRing() api.Ring {
	r := api.Ring{Status: [8]int{2, 2, 1, 3, 4, 0, 0, 2}, Plan: api.Plan{Version: 3, By: 1}}
	for part := range 16 {
		r.Plan.Targets = append(r.Plan.Targets, part%8)
		r.Parts[part] = api.Entry{Epoch: part + 1, Owner: part % 8}
	}
	return r
}

func inc(n int) api.Deed {
	return api.Deed{Kind: 1, N: n}
}

func drop(part int) api.Deed {
	return api.Deed{Kind: 4, Part: part}
}

func ofRing(r api.Ring) api.Deed {
	return api.Deed{Kind: 2, Ring: r}
}

func ofBag(key string, b api.Bag, n int) api.Deed {
	return api.Deed{Kind: 3, Key: key, Bag: b, N: n}
}

// some is a valid deed of each kind, with something in each field that it names.
func some() []api.Deed {
	return []api.Deed{inc(7), ofRing(someRing()), ofBag("nest", someBag(), 9), drop(11)}
}

// whole is a deed with something in each field, which is valid for no kind.
func whole() api.Deed {
	return api.Deed{Kind: 3, N: 7, Key: "nest", Bag: someBag(), Ring: someRing(), Part: 11}
}

// with is d with lists of its own, and something changed.
func with(d api.Deed, change func(d *api.Deed)) api.Deed {
	d.Bag.Values = slices.Clone(d.Bag.Values)
	d.Ring.Plan.Targets = slices.Clone(d.Ring.Plan.Targets)
	change(&d)
	return d
}

// changes are what may be otherwise in a deed: each of its fields, and each
// field of what is in them.
func changes() []func(d *api.Deed) {
	var l []func(d *api.Deed)
	may := func(change func(d *api.Deed)) { l = append(l, change) }
	for _, n := range numbers() {
		may(func(d *api.Deed) { d.Kind = n })
		may(func(d *api.Deed) { d.N = n })
		may(func(d *api.Deed) { d.Part = n })
		may(func(d *api.Deed) { d.Ring.Plan.Version = n })
		may(func(d *api.Deed) { d.Ring.Plan.By = n })
		for node := range 8 {
			may(func(d *api.Deed) { d.Bag.Known[node] = n })
			may(func(d *api.Deed) { d.Ring.Status[node] = n })
		}
		for part := range 16 {
			may(func(d *api.Deed) { d.Ring.Parts[part].Epoch = n })
			may(func(d *api.Deed) { d.Ring.Parts[part].Owner = n })
		}
		for i := range 2 {
			may(func(d *api.Deed) { d.Bag.Values = values(d.Bag.Values, i, api.Dot{Node: n, N: 1}, "x") })
			may(func(d *api.Deed) { d.Bag.Values = values(d.Bag.Values, i, api.Dot{Node: 0, N: n}, "x") })
		}
	}
	for _, n := range []int{0, 1, 2, 15, 16, 17} {
		may(func(d *api.Deed) { d.Ring.Plan.Targets = make([]int, n) })
	}
	for n := range 70 {
		may(func(d *api.Deed) { d.Key = strings.Repeat("k", n) })
		may(func(d *api.Deed) {
			d.Bag.Values = values(d.Bag.Values, 1, api.Dot{Node: 2, N: 6}, strings.Repeat("x", n))
		})
	}
	may(func(d *api.Deed) { d.Key = "\xff\x00" })
	may(func(d *api.Deed) { d.Bag = api.Bag{} })
	may(func(d *api.Deed) { d.Bag.Values = nil })
	may(func(d *api.Deed) { d.Bag.Values = []api.Value{} })
	may(func(d *api.Deed) { d.Bag.Values = make([]api.Value, 40) })
	may(func(d *api.Deed) { d.Ring = api.Ring{} })
	may(func(d *api.Deed) { d.Ring.Plan = api.Plan{Targets: []int{}} })
	return l
}

// values is l, with another value in place i, or at the end.
func values(l []api.Value, i int, d api.Dot, data string) []api.Value {
	l = append(l, make([]api.Value, 2)...)[:max(len(l), i+1)]
	l[i] = api.Value{Dot: d, Data: data}
	return l
}

// everyOdd is deeds that differ from valid ones, or from one that says
// everything, in one thing each.
func everyOdd() []api.Deed {
	var l []api.Deed
	for _, d := range append(some(), whole(), api.Deed{}) {
		l = append(l, d)
		for _, change := range changes() {
			l = append(l, with(d, change))
		}
	}
	return l
}

// isEqual holds two deeds against each other, field by field.
func isEqual(a, b api.Deed) bool {
	p, q := a.Ring.Plan, b.Ring.Plan
	return a.Kind == b.Kind && a.N == b.N && a.Key == b.Key && a.Part == b.Part &&
		a.Bag.Known == b.Bag.Known && slices.Equal(a.Bag.Values, b.Bag.Values) &&
		a.Ring.Status == b.Ring.Status && a.Ring.Parts == b.Ring.Parts &&
		p.Version == q.Version && p.By == q.By && slices.Equal(p.Targets, q.Targets)
}

func areEqual(a, b []api.Deed) bool {
	return slices.EqualFunc(a, b, isEqual)
}

// isDeed is what the chapter says is valid, with the limits as DOC.md tells
// them.
func isDeed(d api.Deed) bool {
	noN, noKey, noPart := d.N == 0, d.Key == "", d.Part == 0
	noBag := isEqual(api.Deed{Bag: d.Bag}, api.Deed{})
	noRing := isEqual(api.Deed{Ring: d.Ring}, api.Deed{})
	isN := d.N >= 0 && d.N <= 1000000
	switch d.Kind {
	case 1:
		return isN && noKey && noBag && noRing && noPart
	case 2:
		return isRing(d.Ring) && noN && noKey && noBag && noPart
	case 3:
		return len(d.Key) >= 1 && len(d.Key) <= 32 && isBag(d.Bag) && isN && noRing && noPart
	case 4:
		return d.Part >= 0 && d.Part <= 15 && noN && noKey && noBag && noRing
	}
	return false
}

// isBag and isRing are what chapters 14 and 9 to 11 say is valid.
func isBag(b api.Bag) bool {
	if slices.Min(b.Known[:]) < 0 || slices.Max(b.Known[:]) > top || len(b.Values) > 32 {
		return false
	}
	for i, v := range b.Values {
		d := v.Dot
		if d.Node < 0 || d.Node > 7 || d.N < 1 || d.N > b.Known[d.Node] || len(v.Data) > 64 {
			return false
		}
		if i > 0 && slices.Compare([]int{b.Values[i-1].Dot.Node, b.Values[i-1].Dot.N}, []int{d.Node, d.N}) >= 0 {
			return false
		}
	}
	return true
}

func isRing(r api.Ring) bool {
	for _, e := range r.Parts {
		isOwned := e.Epoch >= 1 && e.Epoch <= top && e.Owner >= 0 && e.Owner <= 7
		if !isOwned && e != (api.Entry{}) {
			return false
		}
	}
	p := r.Plan
	isNone := p.Version == 0 && p.By == 0 && len(p.Targets) == 0
	isPlan := p.Version >= 1 && p.Version <= top && p.By >= 0 && p.By <= 7 && len(p.Targets) == 16
	for _, n := range p.Targets {
		isPlan = isPlan && n >= 0 && n <= 7
	}
	return (isNone || isPlan) && slices.Min(r.Status[:]) >= 0 && slices.Max(r.Status[:]) <= 4
}

// P17.1
func TestMay(t *testing.T) {
	key := func(n int) string { return strings.Repeat("k", n) }
	for _, x := range []struct {
		name string
		d    api.Deed
		want bool
	}{
		{"nothing", api.Deed{}, false},
		{"the first incarnation", inc(0), true},
		{"the last incarnation", inc(top), true},
		{"one beyond it", inc(top + 1), false},
		{"a negative one", inc(-1), false},
		{"one that is 1 in fewer bits", inc(1<<32 + 1), false},
		{"a ring", ofRing(someRing()), true},
		{"the ring without anything", ofRing(api.Ring{}), true},
		{"a ring with an empty list", ofRing(api.Ring{Plan: api.Plan{Targets: []int{}}}), true},
		{"a ring with a wrong status", ofRing(api.Ring{Status: [8]int{5}}), false},
		{"a ring with a wrong entry", ofRing(api.Ring{Parts: [16]api.Entry{15: {Epoch: 0, Owner: 1}}}), false},
		{"a ring with a wrong plan", ofRing(api.Ring{Plan: api.Plan{Version: 1}}), false},
		{"a bag", ofBag("nest", someBag(), 9), true},
		{"the empty bag", ofBag("nest", api.Bag{}, 0), true},
		{"a key of one byte", ofBag("k", someBag(), 0), true},
		{"no key", ofBag("", someBag(), 0), false},
		{"as many bytes as may be", ofBag(key(32), someBag(), 0), true},
		{"one byte too many", ofBag(key(33), someBag(), 0), false},
		{"far too many bytes", ofBag(key(1<<16+3), someBag(), 0), false},
		{"bytes are counted, not characters", ofBag(strings.Repeat("é", 17), someBag(), 0), false},
		{"bytes that are no characters", ofBag("\xff\x00", someBag(), 0), true},
		{"the last number", ofBag("k", someBag(), top), true},
		{"one beyond it, of a bag", ofBag("k", someBag(), top+1), false},
		{"a negative number", ofBag("k", someBag(), -1), false},
		{"a value that is not known", ofBag("k", api.Bag{Values: someBag().Values}, 0), false},
		{"the first part", drop(0), true},
		{"the last part", drop(15), true},
		{"the part after the last", drop(16), false},
		{"a negative part", drop(-1), false},
		{"a part that is 1 in fewer bits", drop(257), false},
		{"the kind before the first", api.Deed{Kind: 0, N: 1}, false},
		{"the kind after the last", api.Deed{Kind: 5, N: 1}, false},
		{"a negative kind", api.Deed{Kind: -1, N: 1}, false},
		{"a kind that is the first in fewer bits", api.Deed{Kind: 257, N: 1}, false},
		{"empty lists in what is not named", with(drop(1), func(d *api.Deed) {
			d.Bag.Values, d.Ring.Plan.Targets = []api.Value{}, []int{}
		}), true},
	} {
		if got := ledger.May(x.d); got != x.want {
			t.Errorf("%s: May(%v) = %v", x.name, x.d, got)
		}
	}
}

// P17.1: a deed says nothing but what is named for its kind.
func TestMayOfWhatIsNotNamed(t *testing.T) {
	fields := map[string]func(d *api.Deed){
		"N":           func(d *api.Deed) { d.N = 1 },
		"Key":         func(d *api.Deed) { d.Key = "k" },
		"Bag":         func(d *api.Deed) { d.Bag.Known[7] = 1 },
		"Ring status": func(d *api.Deed) { d.Ring.Status[7] = 1 },
		"Ring plan":   func(d *api.Deed) { d.Ring.Plan = someRing().Plan },
		"Ring parts":  func(d *api.Deed) { d.Ring.Parts[15] = api.Entry{Epoch: 1, Owner: 1} },
		"Part":        func(d *api.Deed) { d.Part = 1 },
	}
	named := map[int][]string{
		1: {"N"},
		2: {"Ring status", "Ring plan", "Ring parts"},
		3: {"N", "Key", "Bag"},
		4: {"Part"},
	}
	for _, d := range some() {
		for name, change := range fields {
			want := slices.Contains(named[d.Kind], name)
			if got := ledger.May(with(d, change)); got != want {
				t.Errorf("kind %d: May with another %s = %v", d.Kind, name, got)
			}
		}
	}
}

// P17.1
func TestMayOfEveryEdge(t *testing.T) {
	told := map[bool]int{}
	for _, d := range everyOdd() {
		told[isDeed(d)]++
		if got := ledger.May(d); got != isDeed(d) {
			t.Errorf("May(%v) = %v", d, got)
		}
	}
	if told[true] < 500 || told[false] < 2000 {
		t.Errorf("%v were told", told)
	}
}

// P17.1: each field counts, in deeds that are not valid too.
func TestSame(t *testing.T) {
	for _, d := range append(some(), whole(), api.Deed{}) {
		for _, change := range changes() {
			odd := with(d, change)
			want := isEqual(d, odd)
			if ledger.Same(d, odd) != want || ledger.Same(odd, d) != want {
				t.Errorf("Same(%v, %v) is not %v", d, odd, want)
			}
			if !ledger.Same(odd, with(odd, func(*api.Deed) {})) {
				t.Errorf("%v is not the same as itself", odd)
			}
		}
	}
	for i, d := range some() {
		for k, e := range some() {
			if got := ledger.Same(d, e); got != (i == k) {
				t.Errorf("Same(%v, %v) = %v", d, e, got)
			}
		}
	}
	empty := api.Deed{Bag: api.Bag{Values: []api.Value{}}, Ring: api.Ring{Plan: api.Plan{Targets: []int{}}}}
	if !ledger.Same(api.Deed{}, empty) || !ledger.Same(empty, api.Deed{}) {
		t.Error("no list and an empty one are not the same")
	}
}

// state is what a ledger answers.
type state struct {
	deeds           []api.Deed
	sure, len, room int
}

func stateOf(l *ledger.Ledger) state {
	return state{l.All(), l.Sure(), l.Len(), l.Room()}
}

func (s state) isSame(other state) bool {
	return areEqual(s.deeds, other.deeds) && s.sure == other.sure && s.len == other.len && s.room == other.room
}

// filled is a ledger with sure and with unsure deeds: the incarnations from 0 on.
func filled(t *testing.T, room, sure, unsure int) *ledger.Ledger {
	t.Helper()
	l := ledger.New(room)
	for i := range sure + unsure {
		if i == sure {
			l.Sync()
		}
		mustWrite(t, l, inc(i))
	}
	if unsure == 0 {
		l.Sync()
	}
	return l
}

func mustWrite(t *testing.T, l *ledger.Ledger, d api.Deed) {
	t.Helper()
	if errno := l.Write(d); errno != api.OK {
		t.Fatalf("Write(%v) = %d", d, errno)
	}
}

// P17.2
func TestNew(t *testing.T) {
	for _, x := range []struct{ room, want int }{
		{math.MinInt, 0}, {-1 << 32, 0}, {-3000, 0}, {-1, 0}, {0, 0}, {1, 1}, {2, 2}, {256, 256},
		{most - 1, most - 1}, {most, most}, {most + 1, most}, {1 << 16, most}, {1 << 32, most}, {1<<32 + 5, most}, {math.MaxInt, most},
	} {
		l := ledger.New(x.room)
		if got := stateOf(l); !got.isSame(state{nil, 0, 0, x.want}) {
			t.Errorf("New(%d) is %v", x.room, got)
		}
		for i := range x.want {
			mustWrite(t, l, inc(i))
		}
		if errno := l.Write(inc(1)); errno != api.ErrFull || l.Len() != x.want || l.Room() != 0 {
			t.Errorf("New(%d): Write into a full one = %d, and there are %d", x.room, errno, l.Len())
		}
	}
}

// P17.2: a deed stands at the end, and is not sure.
func TestWrite(t *testing.T) {
	l := ledger.New(9)
	var want []api.Deed
	for i, d := range append(some(), some()...) {
		if errno := l.Write(d); errno != api.OK {
			t.Errorf("Write(%v) = %d", d, errno)
		}
		want = append(want, d)
		if got := stateOf(l); !got.isSame(state{want, 0, i + 1, 8 - i}) {
			t.Errorf("after Write(%v) there is %v", d, got)
		}
	}
}

// P17.2: what is not valid is not written, whether there is room or not.
func TestWriteOfEveryEdge(t *testing.T) {
	full := filled(t, 3, 1, 2)
	before := stateOf(full)
	for _, d := range everyOdd() {
		want, wantFull, deeds := api.ErrArg, api.ErrArg, []api.Deed(nil)
		if isDeed(d) {
			want, wantFull, deeds = api.OK, api.ErrFull, []api.Deed{d}
		}
		l := ledger.New(1)
		if errno := l.Write(d); errno != want || !stateOf(l).isSame(state{deeds, 0, len(deeds), 1 - len(deeds)}) {
			t.Errorf("Write(%v) = %d, and there is %v", d, errno, stateOf(l))
		}
		if errno := full.Write(d); errno != wantFull || !stateOf(full).isSame(before) {
			t.Errorf("Write(%v) into a full one = %d, and there is %v", d, errno, stateOf(full))
		}
	}
}

// P17.2
func TestSync(t *testing.T) {
	for sure := range 4 {
		for unsure := range 4 {
			l := filled(t, 9, sure, unsure)
			if l.Sure() != sure {
				t.Errorf("%d deeds are sure, and not %d", l.Sure(), sure)
			}
			before := stateOf(l)
			before.sure = sure + unsure
			if got := l.Sync(); got != unsure || !stateOf(l).isSame(before) {
				t.Errorf("Sync of %d and %d = %d, and there is %v", sure, unsure, got, stateOf(l))
			}
			if got := l.Sync(); got != 0 || !stateOf(l).isSame(before) {
				t.Errorf("Sync again = %d, and there is %v", got, stateOf(l))
			}
		}
	}
}

// P17.2: what stays is sure, what goes is counted, and leaves its room.
func TestCrash(t *testing.T) {
	for _, stay := range numbers() {
		for sure := range 5 {
			for unsure := range 5 {
				l := filled(t, 9, sure, unsure)
				before := l.All()
				kept := sure + min(max(stay, 0), unsure)
				gone := sure + unsure - kept
				if got := l.Crash(stay); got != gone || !stateOf(l).isSame(state{before[:kept], kept, kept, 9 - kept}) {
					t.Errorf("Crash(%d) of %d and %d = %d, and there is %v", stay, sure, unsure, got, stateOf(l))
				}
				if got := l.Crash(stay); got != 0 || !stateOf(l).isSame(state{before[:kept], kept, kept, 9 - kept}) {
					t.Errorf("Crash(%d) again = %d, and there is %v", stay, got, stateOf(l))
				}
			}
		}
	}
}

// P17.2: the example of the chapter.
func TestWriteAndCrash(t *testing.T) {
	l := ledger.New(5)
	mustWrite(t, l, inc(1))
	if got := l.Crash(0); got != 1 || l.Len() != 0 {
		t.Errorf("Crash(0) = %d, and there are %d", got, l.Len())
	}
}

// P17.2: what is removed comes not back when something is written in its place.
func TestRoomAfterACrash(t *testing.T) {
	l := ledger.New(4)
	for i := range 50 {
		for l.Room() > 0 {
			mustWrite(t, l, ofBag("nest", someBag(), i))
		}
		if got := l.Crash(0); got != 4 || !stateOf(l).isSame(state{nil, 0, 0, 4}) {
			t.Fatalf("Crash = %d, and there is %v", got, stateOf(l))
		}
	}
	mustWrite(t, l, drop(3))
	if got := stateOf(l); !got.isSame(state{[]api.Deed{drop(3)}, 0, 1, 3}) {
		t.Errorf("there is %v", got)
	}
}

// plain is a ledger as the chapter tells it: deeds, each with whether it is sure.
type plain struct {
	room int
	all  []told
}

type told struct {
	deed   api.Deed
	isSure bool
}

func (p *plain) write(d api.Deed) api.Errno {
	if !isDeed(d) {
		return api.ErrArg
	}
	if len(p.all) == p.room {
		return api.ErrFull
	}
	p.all = append(p.all, told{d, false})
	return api.OK
}

func (p *plain) sync() int {
	n := 0
	for i, x := range p.all {
		if !x.isSure {
			n++
		}
		p.all[i].isSure = true
	}
	return n
}

func (p *plain) crash(stay int) int {
	var left []told
	gone := 0
	for _, x := range p.all {
		switch {
		case x.isSure:
			left = append(left, x)
		case stay > 0:
			left = append(left, told{x.deed, true})
			stay--
		default:
			gone++
		}
	}
	p.all = left
	return gone
}

func (p *plain) state() state {
	s := state{len: len(p.all), room: p.room - len(p.all)}
	for _, x := range p.all {
		s.deeds = append(s.deeds, x.deed)
		if x.isSure {
			s.sure++
		}
	}
	return s
}

// P17.2, P17.3, T3: after every call there is what must be, and what was sure
// stands where it stood.
func TestDrawnCalls(t *testing.T) {
	r, odd := rand.New(rand.NewSource(1)), everyOdd()
	answers := map[api.Errno]int{}
	for range 120 {
		room := r.Intn(25) - 1
		l, p := ledger.New(room), &plain{room: max(room, 0)}
		for range 80 {
			sure := l.All()[:l.Sure()]
			var got, want int
			switch r.Intn(9) {
			case 0:
				got, want = l.Sync(), p.sync()
			case 1:
				stay := r.Intn(5) - 1
				got, want = l.Crash(stay), p.crash(stay)
			default:
				d := odd[r.Intn(len(odd))]
				if r.Intn(2) == 0 {
					d = some()[r.Intn(4)]
				}
				errno := l.Write(d)
				answers[errno]++
				got, want = int(errno), int(p.write(d))
			}
			if got != want || !stateOf(l).isSame(p.state()) {
				t.Fatalf("%d was told, and not %d, and there is %v, and not %v", got, want, stateOf(l), p.state())
			}
			if l.Sure() < len(sure) || !areEqual(l.All()[:len(sure)], sure) {
				t.Fatalf("%v were sure, and now there is %v", sure, stateOf(l))
			}
		}
	}
	if answers[api.OK] < 500 || answers[api.ErrArg] < 500 || answers[api.ErrFull] < 500 {
		t.Errorf("%v were told", answers)
	}
}

// P17.3, T3: after everything that may happen, the deeds that were sure remain.
func TestWhatIsSureRemains(t *testing.T) {
	l := ledger.New(most)
	for _, d := range some() {
		mustWrite(t, l, d)
	}
	l.Sync()
	for i, happen := range []func(){
		func() { l.Crash(0) },
		func() { l.Crash(math.MinInt) },
		func() { l.Crash(math.MaxInt) },
		func() { l.Sync() },
		func() { l.Write(inc(-1)) },
		func() { l.Write(api.Deed{}) },
		func() { l.Write(drop(3)); l.Crash(0) },
		func() { l.Write(drop(3)); l.Write(inc(9)); l.Crash(1) },
		func() {
			for l.Write(drop(4)) == api.OK {
			}
		},
		func() { l.Write(drop(5)) },
		func() { l.Crash(0) },
	} {
		happen()
		if got := l.All(); l.Sure() < 4 || !areEqual(got[:4], some()) {
			t.Errorf("after %d there is %v", i, got)
		}
	}
	if want := append(some(), drop(3)); !areEqual(l.All(), want) {
		t.Errorf("at the end there is %v", l.All())
	}
}

// overwrite changes l, and the memory behind it.
func overwrite[T any](l []T, x T) {
	l = l[:cap(l)]
	for i := range l {
		l[i] = x
	}
}

// spoil changes everything that d has in lists.
func spoil(d api.Deed) {
	overwrite(d.Bag.Values, api.Value{Dot: api.Dot{Node: -7, N: -7}, Data: "spoiled"})
	overwrite(d.Ring.Plan.Targets, -7)
}

// P17.2, R2: a ledger keeps no memory that it was given, and gives none away.
func TestDeedsAreNewMemory(t *testing.T) {
	l := ledger.New(9)
	for _, d := range some() {
		mustWrite(t, l, d)
		spoil(d)
	}
	if got := l.All(); !areEqual(got, some()) {
		t.Errorf("an argument was kept: %v", got)
	}
	first, second := l.All(), l.All()
	for _, d := range first {
		spoil(d)
	}
	overwrite(first, api.Deed{})
	if !areEqual(second, some()) || !areEqual(l.All(), some()) {
		t.Errorf("results share memory: %v, %v", second, l.All())
	}
}

// P17.2, R2: no two deeds of a result share memory, even if one was written twice.
func TestDeedsOfOneResult(t *testing.T) {
	l := ledger.New(9)
	b, r := ofBag("nest", someBag(), 9), ofRing(someRing())
	for range 2 {
		mustWrite(t, l, b)
		mustWrite(t, l, r)
	}
	got := l.All()
	spoil(got[0])
	spoil(got[1])
	if !areEqual(got[2:], []api.Deed{b, r}) {
		t.Errorf("deeds share memory: %v", got)
	}
}

// P17.1, P17.2, R2: arguments stay, and what lies beyond their lists is neither
// read nor written.
func TestArgumentsStay(t *testing.T) {
	values := append(someBag().Values, api.Value{Dot: api.Dot{Node: 9, N: -1}, Data: "beyond"}, api.Value{})
	targets := append(someRing().Plan.Targets, 9, -1)
	ring := someRing()
	ring.Plan.Targets = targets[:16]
	b, r := ofBag("nest", api.Bag{Known: someBag().Known, Values: values[:2]}, 9), ofRing(ring)
	moreValues, moreTargets := slices.Clone(values), slices.Clone(targets)
	l := ledger.New(9)
	for _, d := range []api.Deed{b, r} {
		mustWrite(t, l, d)
		if !ledger.May(d) || !ledger.Same(d, some()[map[int]int{3: 2, 2: 1}[d.Kind]]) {
			t.Errorf("what lies beyond the lists of %v was read", d)
		}
	}
	l.Crash(1)
	mustWrite(t, l, b)
	if !slices.Equal(values, moreValues) || !slices.Equal(targets, moreTargets) {
		t.Errorf("the arguments became %v and %v", values, targets)
	}
}

// P17.2, R3: of a nil ledger nothing is told; one that New did not make has no room.
func TestNoLedger(t *testing.T) {
	var none *ledger.Ledger
	for _, d := range append(some(), api.Deed{}) {
		if errno := none.Write(d); errno != api.ErrArg {
			t.Errorf("Write(%v) = %d", d, errno)
		}
	}
	for _, stay := range numbers() {
		if got := none.Crash(stay); got != 0 {
			t.Errorf("Crash(%d) = %d", stay, got)
		}
	}
	if none.Sync() != 0 || !stateOf(none).isSame(state{}) {
		t.Errorf("a nil ledger is %v", stateOf(none))
	}
	bare := &ledger.Ledger{}
	if errno := bare.Write(inc(1)); errno != api.ErrFull || bare.Sync() != 0 || bare.Crash(3) != 0 || !stateOf(bare).isSame(state{}) {
		t.Errorf("Write = %d, and there is %v", errno, stateOf(bare))
	}
}

// P17.1, R3: lists that are far too long are refused.
func TestFarTooMany(t *testing.T) {
	crowd := make([]api.Value, 1<<18)
	l := ledger.New(9)
	for _, d := range some() {
		d.Bag.Values = crowd
		if errno := l.Write(d); ledger.May(d) || errno != api.ErrArg {
			t.Errorf("kind %d: Write of a crowd = %d", d.Kind, errno)
		}
	}
	for _, d := range some() {
		d.Ring.Plan.Targets = make([]int, 1<<18)
		if errno := l.Write(d); ledger.May(d) || errno != api.ErrArg {
			t.Errorf("kind %d: Write of many targets = %d", d.Kind, errno)
		}
	}
	if l.Len() != 0 {
		t.Errorf("there are %d", l.Len())
	}
}

// P17.2, R6: ledgers have nothing to do with one another.
func TestLedgersAreApart(t *testing.T) {
	var all sync.WaitGroup
	for worker := range 4 {
		all.Go(func() {
			l := ledger.New(20 + worker)
			for i := range 20 {
				l.Write(inc(100*worker + i))
				if i%3 == worker%3 {
					l.Sync()
				}
			}
			got := l.All()
			for i, d := range got {
				if !isEqual(d, inc(100*worker+i)) {
					t.Errorf("worker %d: deed %d is %v", worker, i, d)
				}
			}
			if len(got) != 20 || l.Room() != worker {
				t.Errorf("worker %d: there is %v", worker, stateOf(l))
			}
		})
	}
	all.Wait()
}
