package entry_test

import (
	"math"
	"math/rand"
	"slices"
	"sync"
	"testing"

	"starling/api"
	"starling/entry"
)

func at(epoch, owner int) api.Entry {
	return api.Entry{Epoch: epoch, Owner: owner}
}

// numbers are those at which a call may answer otherwise, and their neighbours,
// and numbers that are one of them in fewer bits.
func numbers() []int {
	return []int{
		math.MinInt, math.MinInt + 1, -1 << 32, -1000000, -2, -1, 0, 1, 2, 3, 6, 7, 8, 9,
		255, 256, 999999, 1000000, 1000001, 1 << 32, 1<<32 + 1, math.MaxInt - 1, math.MaxInt,
	}
}

// everyEntry is every entry made of numbers, valid or not.
func everyEntry() []api.Entry {
	var l []api.Entry
	for _, epoch := range numbers() {
		for _, owner := range numbers() {
			l = append(l, at(epoch, owner))
		}
	}
	return l
}

// isValid is what the chapter says, with the limits as DOC.md tells them.
func isValid(e api.Entry) bool {
	owned := e.Epoch >= 1 && e.Epoch <= 1000000 && e.Owner >= 0 && e.Owner <= 7
	nobodys := e.Epoch == 0 && e.Owner == 0
	return owned || nobodys
}

// P9.1
func TestMay(t *testing.T) {
	for _, x := range []struct {
		name string
		e    api.Entry
		want bool
	}{
		{"it belongs to nobody", at(0, 0), true},
		{"the first epoch, the first node", at(1, 0), true},
		{"the first epoch, the last node", at(1, 7), true},
		{"some epoch, some node", at(41, 3), true},
		{"the last epoch, the first node", at(1000000, 0), true},
		{"the last epoch, the last node", at(1000000, 7), true},
		{"an owner without an epoch", at(0, 1), false},
		{"the last node without an epoch", at(0, 7), false},
		{"no node, without an epoch", at(0, -1), false},
		{"a negative epoch", at(-1, 0), false},
		{"a negative epoch with an owner", at(-1, 3), false},
		{"an epoch after the last", at(1000001, 3), false},
		{"an owner after the last node", at(1, 8), false},
		{"an owner far after the last node", at(1, 16), false},
		{"a negative owner", at(1, -1), false},
		{"both too great", at(1000001, 8), false},
		{"both as great as can be", at(math.MaxInt, math.MaxInt), false},
		{"both as small as can be", at(math.MinInt, math.MinInt), false},
		{"an epoch that is 1 in fewer bits", at(1<<32+1, 3), false},
		{"an owner that is 1 in fewer bits", at(1, 1<<32+1), false},
	} {
		if got := entry.May(x.e); got != x.want {
			t.Errorf("%s: May(%v) = %v", x.name, x.e, got)
		}
	}
}

// P9.1
func TestMayOfEveryEdge(t *testing.T) {
	for _, e := range everyEntry() {
		if got := entry.May(e); got != isValid(e) {
			t.Errorf("May(%v) = %v", e, got)
		}
	}
}

// P9.1
func TestCompare(t *testing.T) {
	for _, x := range []struct {
		name string
		a, b api.Entry
		want int
	}{
		{"nobody and the first epoch", at(0, 0), at(1, 0), -1},
		{"the epoch rises", at(4, 2), at(5, 2), -1},
		{"the owner is greater", at(4, 2), at(4, 3), -1},
		{"the epoch outweighs the owner", at(4, 7), at(5, 0), -1},
		{"the epoch outweighs an owner that is no node", at(4, math.MaxInt), at(5, math.MinInt), -1},
		{"the same", at(4, 2), at(4, 2), 0},
		{"both belong to nobody", at(0, 0), at(0, 0), 0},
		{"the same, not valid", at(-4, 99), at(-4, 99), 0},
		{"an owner that is no node, and one that is", at(4, -1), at(4, 0), -1},
		{"owners after the last node", at(4, 8), at(4, 9), -1},
		{"a negative epoch and none", at(-1, 7), at(0, 0), -1},
		{"epochs after the last", at(1000001, 7), at(1000002, 0), -1},
		{"epochs as far apart as can be", at(math.MinInt, 0), at(math.MaxInt, 0), -1},
		{"owners as far apart as can be", at(4, math.MinInt), at(4, math.MaxInt), -1},
	} {
		if got := entry.Compare(x.a, x.b); got != x.want {
			t.Errorf("%s: Compare(%v, %v) = %d", x.name, x.a, x.b, got)
		}
		if got := entry.Compare(x.b, x.a); got != -x.want {
			t.Errorf("%s: Compare(%v, %v) = %d", x.name, x.b, x.a, got)
		}
	}
}

// P9.1
func TestJoin(t *testing.T) {
	for _, x := range []struct {
		name       string
		a, b, want api.Entry
	}{
		{"b has the greater epoch", at(4, 7), at(5, 0), at(5, 0)},
		{"a has the greater epoch", at(5, 0), at(4, 7), at(5, 0)},
		{"b has the greater owner", at(4, 2), at(4, 3), at(4, 3)},
		{"a has the greater owner", at(4, 3), at(4, 2), at(4, 3)},
		{"they are equal", at(4, 3), at(4, 3), at(4, 3)},
		{"a belongs to nobody", at(0, 0), at(1, 0), at(1, 0)},
		{"b belongs to nobody", at(1, 0), at(0, 0), at(1, 0)},
		{"both belong to nobody", at(0, 0), at(0, 0), at(0, 0)},
		{"what is not valid is less", at(0, 0), at(-1, 9), at(0, 0)},
		{"what is not valid is greater", at(1, 7), at(1, 8), at(1, 8)},
		{"an epoch after the last is greater", at(1000001, 0), at(1000000, 7), at(1000001, 0)},
		{"neither is valid", at(-2, 9), at(-1, -9), at(-1, -9)},
	} {
		if got := entry.Join(x.a, x.b); got != x.want {
			t.Errorf("%s: Join(%v, %v) = %v", x.name, x.a, x.b, got)
		}
	}
}

// P9.2: the example, and the rows beside it.
func TestFlip(t *testing.T) {
	const top = 1000000
	for _, x := range []struct {
		name  string
		e     api.Entry
		to    int
		want  api.Entry
		errno api.Errno
	}{
		{"the example", at(1, 0), 3, at(2, 3), api.OK},
		{"to the first node", at(41, 3), 0, at(42, 0), api.OK},
		{"to the last node", at(41, 3), 7, at(42, 7), api.OK},
		{"to the owner itself", at(41, 3), 3, at(42, 3), api.OK},
		{"it belonged to nobody", at(0, 0), 5, at(1, 5), api.OK},
		{"it belonged to nobody, to the first node", at(0, 0), 0, at(1, 0), api.OK},
		{"up to the last epoch", at(top-1, 2), 6, at(top, 6), api.OK},
		{"over", at(top, 2), 6, at(0, 0), api.ErrOver},
		{"over, to the owner itself", at(top, 2), 2, at(0, 0), api.ErrOver},
		{"over, to the first node", at(top, 0), 0, at(0, 0), api.ErrOver},
		{"to a node after the last", at(1, 0), 8, at(0, 0), api.ErrArg},
		{"to a negative node", at(1, 0), -1, at(0, 0), api.ErrArg},
		{"to what is 3 in fewer bits", at(1, 0), 1<<32 + 3, at(0, 0), api.ErrArg},
		{"nobody's, to what is no node", at(0, 0), -1, at(0, 0), api.ErrArg},
		{"an owner without an epoch", at(0, 1), 3, at(0, 0), api.ErrArg},
		{"a negative epoch", at(-1, 0), 3, at(0, 0), api.ErrArg},
		{"an epoch after the last", at(top+1, 0), 3, at(0, 0), api.ErrArg},
		{"the greatest epoch of all", at(math.MaxInt, 0), 3, at(0, 0), api.ErrArg},
		{"an owner after the last node", at(1, 8), 3, at(0, 0), api.ErrArg},
		{"a negative owner", at(1, -1), 3, at(0, 0), api.ErrArg},
		{"ErrArg comes before ErrOver: to what is no node", at(top, 2), 8, at(0, 0), api.ErrArg},
		{"ErrArg comes before ErrOver: an owner that is no node", at(top, 8), 3, at(0, 0), api.ErrArg},
		{"nothing is valid", at(-1, -1), -1, at(0, 0), api.ErrArg},
	} {
		got, errno := entry.Flip(x.e, x.to)
		if got != x.want || errno != x.errno {
			t.Errorf("%s: Flip(%v, %d) = %v, %d", x.name, x.e, x.to, got, errno)
		}
	}
}

// P9.2
func TestFlipOfEveryEdge(t *testing.T) {
	for _, e := range everyEntry() {
		for _, to := range numbers() {
			want, wantErrno := at(e.Epoch+1, to), api.OK
			if !isValid(e) || to < 0 || to > 7 {
				want, wantErrno = at(0, 0), api.ErrArg
			} else if e.Epoch == 1000000 {
				want, wantErrno = at(0, 0), api.ErrOver
			}
			if got, errno := entry.Flip(e, to); got != want || errno != wantErrno {
				t.Errorf("Flip(%v, %d) = %v, %d", e, to, got, errno)
			}
		}
	}
}

// P9.2: every epoch up to the last, and no further.
func TestFlipsOneByOne(t *testing.T) {
	e := at(0, 0)
	for n := 1; n <= 1000000; n++ {
		next, errno := entry.Flip(e, n%8)
		if next != at(n, n%8) || errno != api.OK {
			t.Fatalf("Flip(%v, %d) = %v, %d", e, n%8, next, errno)
		}
		e = next
	}
	if next, errno := entry.Flip(e, 1); next != at(0, 0) || errno != api.ErrOver {
		t.Errorf("Flip(%v, 1) = %v, %d", e, next, errno)
	}
}

// P9.3: everyEntry stands in order, by what it is made of.
func TestCompareIsAnOrder(t *testing.T) {
	l := everyEntry()
	for i, a := range l {
		for k, b := range l {
			want := 0
			if i < k {
				want = -1
			} else if i > k {
				want = 1
			}
			if got := entry.Compare(a, b); got != want {
				t.Errorf("Compare(%v, %v) = %d", a, b, got)
			}
		}
	}
}

// P9.3, T2: two entries are equal if Compare says so, and otherwise not.
func TestEqualEntriesAreTheSame(t *testing.T) {
	l := everyEntry()
	for _, a := range l {
		for _, b := range l {
			if (entry.Compare(a, b) == 0) != (a == b) {
				t.Errorf("Compare(%v, %v) = %d", a, b, entry.Compare(a, b))
			}
		}
	}
}

// P9.3: Join is the least entry that is below neither.
func TestJoinIsTheGreater(t *testing.T) {
	l := everyEntry()
	for i, a := range l {
		for k, b := range l {
			if got := entry.Join(a, b); got != l[max(i, k)] {
				t.Errorf("Join(%v, %v) = %v", a, b, got)
			}
		}
	}
}

// P9.3: it does not matter in which order entries are joined, or how often.
func TestJoinInAnyOrder(t *testing.T) {
	r := rand.New(rand.NewSource(1))
	every := everyEntry()
	for range 2000 {
		var l []api.Entry
		for range 1 + r.Intn(9) {
			l = append(l, every[r.Intn(len(every))])
		}
		want := slices.MaxFunc(l, entry.Compare)
		twice := append(slices.Clone(l), l...)
		r.Shuffle(len(twice), func(i, k int) { twice[i], twice[k] = twice[k], twice[i] })
		half := r.Intn(len(twice))
		left, right := joined(twice[:half+1]), joined(twice[half:])
		if joined(l) != want || joined(twice) != want || entry.Join(left, right) != want {
			t.Errorf("%v joined are %v, and not always", l, want)
		}
	}
}

// joined is the entries of l, of which there is one at least, joined one by one.
func joined(l []api.Entry) api.Entry {
	all := l[0]
	for _, e := range l[1:] {
		all = entry.Join(all, e)
	}
	return all
}

// P9.3, T2: who hears of the flip, and of what was before, believes the flip.
func TestFlipIsGreater(t *testing.T) {
	flipped := 0
	for _, e := range everyEntry() {
		for to := range 8 {
			next, errno := entry.Flip(e, to)
			if errno != api.OK {
				continue
			}
			flipped++
			if !entry.May(next) || entry.Compare(next, e) != 1 || entry.Compare(e, next) != -1 {
				t.Errorf("Flip(%v, %d) = %v", e, to, next)
			}
			if entry.Join(e, next) != next || entry.Join(next, e) != next {
				t.Errorf("%v is not believed rather than %v", next, e)
			}
		}
	}
	if flipped == 0 {
		t.Error("nothing was flipped")
	}
}

// P9.3, T2: entries that only Flip and Join make are valid, and rise.
func TestWhatIsMadeRises(t *testing.T) {
	r := rand.New(rand.NewSource(2))
	for range 200 {
		known := [3]api.Entry{}
		for range 50 {
			i, k := r.Intn(3), r.Intn(3)
			before := known[i]
			if next, errno := entry.Flip(known[k], r.Intn(8)); errno == api.OK && r.Intn(2) == 0 {
				known[k] = next
			}
			known[i] = entry.Join(known[i], known[k])
			if !entry.May(known[i]) || entry.Compare(known[i], before) < 0 {
				t.Fatalf("%v became %v", before, known[i])
			}
		}
	}
}

// P9.3, R6: nothing is kept from call to call, in whatever order the calls come.
func TestNothingIsKept(t *testing.T) {
	r := rand.New(rand.NewSource(3))
	l := everyEntry()
	var all sync.WaitGroup
	for worker := range 4 {
		order, other := r.Perm(len(l)), r.Perm(len(l))
		all.Go(func() {
			for n, i := range order {
				k := other[n]
				if got := entry.Join(l[i], l[k]); got != l[max(i, k)] {
					t.Errorf("worker %d: Join(%v, %v) = %v", worker, l[i], l[k], got)
				}
				if entry.May(l[i]) != isValid(l[i]) {
					t.Errorf("worker %d: May(%v) is wrong", worker, l[i])
				}
				entry.Flip(l[i], k%8)
			}
		})
	}
	all.Wait()
}
