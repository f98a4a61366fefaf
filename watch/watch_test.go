package watch_test

import (
	"cmp"
	"math"
	"math/rand"
	"slices"
	"testing"

	"starling/watch"
)

// lastAt is the latest moment that can be set.
const lastAt = 1099511627776

// moment is when an id is due.
type moment struct {
	id, at int
}

// clock is one on which these moments were set in this order.
func clock(t *testing.T, set ...moment) *watch.Clock {
	t.Helper()
	c := watch.New()
	for _, m := range set {
		if !c.Set(m.id, m.at) {
			t.Errorf("Set(%d, %d) = false", m.id, m.at)
		}
	}
	return c
}

// mustHave holds all that c has against what it must have.
func mustHave(t *testing.T, c *watch.Clock, want ...moment) {
	t.Helper()
	if got := c.Len(); got != len(want) {
		t.Errorf("Len() = %d, not %d", got, len(want))
	}
	ats := map[int]int{}
	for _, m := range want {
		ats[m.id] = m.at
	}
	for id := -2; id <= 1001; id++ {
		wantAt, wantOK := ats[id]
		if at, ok := c.At(id); at != wantAt || ok != wantOK {
			t.Errorf("At(%d) = %d, %v, not %d, %v", id, at, ok, wantAt, wantOK)
		}
	}
}

func mustDue(t *testing.T, c *watch.Clock, now int, want ...int) {
	t.Helper()
	if got := c.Due(now); !slices.Equal(got, want) {
		t.Errorf("Due(%d) = %v, not %v", now, got, want)
	}
}

func mustCut(t *testing.T, c *watch.Clock, id int, want bool) {
	t.Helper()
	if got := c.Cut(id); got != want {
		t.Errorf("Cut(%d) = %v, not %v", id, got, want)
	}
}

// P5.1: the example.
func TestExample(t *testing.T) {
	c := clock(t, moment{1, 5}, moment{2, 3})
	mustDue(t, c, 5, 2, 1)
	mustHave(t, c)
}

// P5.1
func TestNewHasNoMoments(t *testing.T) {
	c := watch.New()
	mustHave(t, c)
	mustDue(t, c, math.MaxInt)
	mustCut(t, c, 0, false)
	if watch.New() == nil {
		t.Error("New() is nil")
	}
}

// P5.1: the bounds of both arguments.
func TestSetArguments(t *testing.T) {
	for _, x := range []struct {
		id, at int
		want   bool
	}{
		{0, 0, true}, {0, 1, true}, {1, 0, true}, {500, 70, true},
		{998, 8, true}, {999, 8, true}, {999, lastAt, true}, {0, lastAt - 1, true},
		{0, lastAt, true}, {0, 1 << 32, true},
		{-1, 0, false}, {1000, 0, false}, {1001, 5, false}, {0, -1, false},
		{0, lastAt + 1, false}, {-1, -1, false}, {1000, lastAt + 1, false},
		{-1, lastAt + 1, false}, {1000, -1, false},
		{math.MinInt, 5, false}, {math.MaxInt, 5, false},
		{5, math.MinInt, false}, {5, math.MaxInt, false},
		{1 << 32, 5, false}, {5, 1 << 41, false},
	} {
		c := watch.New()
		if got := c.Set(x.id, x.at); got != x.want {
			t.Errorf("Set(%d, %d) = %v", x.id, x.at, got)
		}
		if x.want {
			mustHave(t, c, moment{x.id, x.at})
		} else {
			mustHave(t, c)
		}
	}
}

// P5.1: what is refused leaves the earlier moments as they were.
func TestSetRefusedDoesNothing(t *testing.T) {
	c := clock(t, moment{0, 4}, moment{7, 9}, moment{999, 2})
	for _, m := range []moment{
		{-1, 3}, {1000, 3}, {7, -1}, {7, lastAt + 1}, {0, math.MinInt}, {999, math.MaxInt},
	} {
		if c.Set(m.id, m.at) {
			t.Errorf("Set(%d, %d) = true", m.id, m.at)
		}
		mustHave(t, c, moment{0, 4}, moment{7, 9}, moment{999, 2})
	}
	mustDue(t, c, 100, 999, 0, 7)
}

// P5.1: a moment takes the place of an earlier one, be it sooner, later or the same.
func TestSetInPlace(t *testing.T) {
	for _, x := range []struct {
		at   int
		want []int
	}{
		{0, []int{2, 1, 3}}, {10, []int{1, 2, 3}}, {15, []int{1, 2, 3}},
		{20, []int{1, 2, 3}}, {30, []int{1, 2, 3}}, {31, []int{1, 3, 2}},
		{lastAt, []int{1, 3, 2}},
	} {
		c := clock(t, moment{1, 10}, moment{2, 20}, moment{3, 30}, moment{2, x.at})
		mustHave(t, c, moment{1, 10}, moment{2, x.at}, moment{3, 30})
		mustDue(t, c, lastAt, x.want...)
	}
}

// P5.1: an id that was moved is due at its new moment alone.
func TestSetInPlaceForgetsTheEarlierOne(t *testing.T) {
	c := clock(t, moment{4, 3}, moment{4, 8})
	mustDue(t, c, 7)
	mustDue(t, c, 8, 4)
	mustDue(t, c, lastAt)
	mustHave(t, c)
}

// P5.1
func TestCut(t *testing.T) {
	all := []moment{{0, 5}, {1, 2}, {2, 8}, {50, 2}, {999, 0}}
	for i, m := range all {
		c := clock(t, all...)
		for _, id := range []int{math.MinInt, -1, 3, 998, 1000, math.MaxInt} {
			mustCut(t, c, id, false)
		}
		mustHave(t, c, all...)
		mustCut(t, c, m.id, true)
		rest := slices.Delete(slices.Clone(all), i, i+1)
		mustHave(t, c, rest...)
		mustCut(t, c, m.id, false)
		mustHave(t, c, rest...)
		want := slices.DeleteFunc([]int{999, 1, 50, 0, 2}, func(id int) bool { return id == m.id })
		mustDue(t, c, 8, want...)
	}
}

// P5.1: what was cut can be set again.
func TestSetAfterCut(t *testing.T) {
	c := clock(t, moment{3, 4}, moment{5, 6})
	mustCut(t, c, 3, true)
	c.Set(3, 7)
	mustHave(t, c, moment{3, 7}, moment{5, 6})
	mustDue(t, c, 7, 5, 3)
	mustCut(t, c, 3, false)
}

// P5.1: a moment is due from its own tick on.
func TestDueAtItsMoment(t *testing.T) {
	for _, at := range []int{0, 1, 5, 1 << 31, lastAt - 1, lastAt} {
		for _, x := range []struct {
			now  int
			want bool
		}{
			{math.MinInt, false}, {-1, false}, {at - 1, false}, {at, true},
			{at + 1, true}, {lastAt + 1, true}, {math.MaxInt, true},
		} {
			c := clock(t, moment{6, at})
			if x.want {
				mustDue(t, c, x.now, 6)
				mustHave(t, c)
			} else {
				mustDue(t, c, x.now)
				mustHave(t, c, moment{6, at})
			}
		}
	}
}

// P5.1: now may go back; what is due depends on it alone.
func TestDueGoesBack(t *testing.T) {
	c := clock(t, moment{1, 5}, moment{2, 9})
	mustDue(t, c, 5, 1)
	c.Set(3, 2)
	mustDue(t, c, 1)
	mustDue(t, c, 2, 3)
	mustHave(t, c, moment{2, 9})
}

// P5.1: by moment first, then by id, in whatever order they were set.
func TestDueOrder(t *testing.T) {
	all := []moment{{999, 1}, {2, 4}, {10, 4}, {100, 4}, {1, 7}, {3, 7}, {0, 8}}
	r := rand.New(rand.NewSource(1))
	for range 200 {
		set := slices.Clone(all)
		r.Shuffle(len(set), func(i, j int) { set[i], set[j] = set[j], set[i] })
		mustDue(t, clock(t, set...), 8, 999, 2, 10, 100, 1, 3, 0)
		mustDue(t, clock(t, set...), 7, 999, 2, 10, 100, 1, 3)
		mustDue(t, clock(t, set...), 4, 999, 2, 10, 100)
	}
}

// P5.1: there is room for every id.
func TestAllIDs(t *testing.T) {
	c := watch.New()
	var want []int
	for i := range 1000 {
		c.Set(i*7%1000, 3)
		want = append(want, i)
	}
	if got := c.Len(); got != 1000 {
		t.Errorf("Len() = %d", got)
	}
	mustDue(t, c, 2)
	mustDue(t, c, 3, want...)
	mustHave(t, c)
}

// P5.1, R2: what Due answers belongs to the caller.
func TestDueIsNewMemory(t *testing.T) {
	c := clock(t, moment{1, 1}, moment{2, 2}, moment{3, 3}, moment{4, 4})
	first := c.Due(2)
	kept := slices.Clone(first)
	c.Set(9, 1)
	c.Set(8, 1)
	second := c.Due(3)
	if !slices.Equal(first, kept) || !slices.Equal(second, []int{8, 9, 3}) {
		t.Errorf("answers are %v and %v", first, second)
	}
	clear(first)
	_ = append(second[:0], 5, 5, 5)
	mustHave(t, c, moment{4, 4})
}

// P5.1: to ask changes nothing.
func TestAskingChangesNothing(t *testing.T) {
	c := clock(t, moment{1, 1}, moment{2, 0})
	for range 3 {
		mustHave(t, c, moment{1, 1}, moment{2, 0})
		mustDue(t, c, -1)
	}
	mustDue(t, c, 1, 2, 1)
}

// P5.1: what is set on one clock is nothing to another one.
func TestClocksAreIndependent(t *testing.T) {
	c, d := watch.New(), watch.New()
	c.Set(1, 5)
	mustHave(t, d)
	d.Set(1, 9)
	mustDue(t, c, 9, 1)
	mustHave(t, d, moment{1, 9})
	mustHave(t, watch.New())
}

// P5.1, R3
func TestNilClock(t *testing.T) {
	var c *watch.Clock
	for _, n := range []int{math.MinInt, -1, 0, 1, 999, 1000, math.MaxInt} {
		if c.Set(n, n) || c.Set(1, n) || c.Set(n, 1) {
			t.Errorf("Set of %d = true", n)
		}
		mustCut(t, c, n, false)
		mustDue(t, c, n)
	}
	mustHave(t, c)
}

// plainClock does what the chapter says, one sentence after the other.
type plainClock struct {
	at map[int]int
}

func (p *plainClock) set(id, at int) bool {
	if id < 0 || id > 999 || at < 0 || at > lastAt {
		return false
	}
	p.at[id] = at
	return true
}

func (p *plainClock) cut(id int) bool {
	_, ok := p.at[id]
	delete(p.at, id)
	return ok
}

func (p *plainClock) due(now int) []int {
	gone := slices.DeleteFunc(p.moments(), func(m moment) bool { return m.at > now })
	slices.SortFunc(gone, func(a, b moment) int {
		return cmp.Or(cmp.Compare(a.at, b.at), cmp.Compare(a.id, b.id))
	})
	var ids []int
	for _, m := range gone {
		ids = append(ids, m.id)
		delete(p.at, m.id)
	}
	return ids
}

func (p *plainClock) moments() []moment {
	var l []moment
	for id, at := range p.at {
		l = append(l, moment{id, at})
	}
	return l
}

// P5.1: calls of all kinds, mixed.
func TestAgainstPlainClock(t *testing.T) {
	r := rand.New(rand.NewSource(2))
	for round := range 200 {
		c, p := watch.New(), &plainClock{at: map[int]int{}}
		// A few ids and moments meet often; many fill the clock.
		ids, ats := 1+r.Intn(30), 1+r.Intn(40)
		if round%10 == 0 {
			ids, ats = 1010, 300
		}
		for range 300 {
			id, at := r.Intn(ids+2)-1, r.Intn(ats+2)-1
			switch r.Intn(8) {
			case 0, 1:
				mustCut(t, c, id, p.cut(id))
			case 2:
				now := r.Intn(ats) / (1 + r.Intn(5))
				mustDue(t, c, now, p.due(now)...)
			default:
				if got, want := c.Set(id, at), p.set(id, at); got != want {
					t.Errorf("Set(%d, %d) = %v", id, at, got)
				}
			}
			if c.Len() != len(p.at) {
				t.Errorf("Len() = %d, not %d", c.Len(), len(p.at))
			}
			if t.Failed() {
				return
			}
		}
		mustHave(t, c, p.moments()...)
		mustDue(t, c, ats, p.due(ats)...)
	}
}

// P5.2: tick after tick, each moment is due once, at its own tick; those of a
// tick come by id.
func TestEachIsDueOnceInOrder(t *testing.T) {
	r := rand.New(rand.NewSource(3))
	for range 100 {
		c := watch.New()
		at := map[int]int{}
		for range r.Intn(60) {
			id := r.Intn(1000)
			at[id] = r.Intn(30)
			c.Set(id, at[id])
		}
		times := map[int]int{}
		for now := range 40 {
			ids := c.Due(now)
			if !slices.IsSorted(ids) {
				t.Fatalf("Due(%d) = %v", now, ids)
			}
			for _, id := range ids {
				times[id]++
				if at[id] != now || times[id] > 1 {
					t.Fatalf("id %d, set to %d, is due at %d", id, at[id], now)
				}
			}
		}
		if len(times) != len(at) || c.Len() != 0 {
			t.Fatalf("%d of %d were due, %d are left", len(times), len(at), c.Len())
		}
	}
}

// P5.2: ticks that are left out make nothing due twice, or lost.
func TestEachIsDueOnceInLeaps(t *testing.T) {
	r := rand.New(rand.NewSource(4))
	for range 100 {
		c := watch.New()
		var want []moment
		for _, id := range r.Perm(1000)[:r.Intn(80)] {
			m := moment{id, r.Intn(50)}
			want = append(want, m)
			c.Set(m.id, m.at)
		}
		slices.SortFunc(want, func(a, b moment) int {
			return cmp.Or(cmp.Compare(a.at, b.at), cmp.Compare(a.id, b.id))
		})
		var got []moment
		for now := 0; now < 60; now += 1 + r.Intn(10) {
			for _, id := range c.Due(now) {
				i := slices.IndexFunc(want, func(m moment) bool { return m.id == id })
				got = append(got, want[i])
			}
		}
		got = append(got, rest(c, want)...)
		if !slices.Equal(got, want) {
			t.Fatalf("due were %v, not %v", got, want)
		}
	}
}

// rest is the moments that c still makes due in the end.
func rest(c *watch.Clock, known []moment) []moment {
	var l []moment
	for _, id := range c.Due(math.MaxInt) {
		i := slices.IndexFunc(known, func(m moment) bool { return m.id == id })
		l = append(l, known[i])
	}
	return l
}
