package fold_test

import (
	"maps"
	"math"
	"math/rand"
	"slices"
	"strconv"
	"strings"
	"sync"
	"testing"

	"starling/api"
	"starling/bag"
	"starling/fold"
	"starling/ledger"
	"starling/spot"
	"starling/vault"
)

const (
	parts = 16
	home  = 6 // the part that most tests go through
)

// empty is a vault without keys.
func empty() *vault.Vault {
	return vault.Open(ledger.New(3000))
}

// put writes data under each of keys, for somebody who knows nothing.
func put(t *testing.T, v *vault.Vault, data string, keys ...string) {
	t.Helper()
	for _, key := range keys {
		if _, errno := v.Put(2, key, api.Vector{}, data); errno != api.OK {
			t.Errorf("Put(%q) = %d", key, errno)
		}
	}
}

// holding is a vault with these keys, put from the last to the first, and with
// keys of all other parts around them.
func holding(t *testing.T, keys ...string) *vault.Vault {
	t.Helper()
	v := empty()
	for i := range 60 {
		key := string(rune('a'+i%26)) + strconv.Itoa(i)
		if spot.Of(key) != home {
			put(t, v, "other", key)
		}
	}
	for _, key := range slices.Backward(keys) {
		put(t, v, "of "+key, key)
	}
	return v
}

// of is n keys of a part, which begin with start, in ascending order.
func of(part, n int, start string) []string {
	var l []string
	for i := 0; len(l) < n; i++ {
		if key := start + strconv.Itoa(i); spot.Of(key) == part {
			l = append(l, key)
		}
	}
	slices.Sort(l)
	return l
}

// wrong is what belongs to no part.
func wrong() []string {
	return []string{"", strings.Repeat("k", 33), strings.Repeat("\x00", 33), strings.Repeat("é", 17), strings.Repeat("k", 1<<16+3)}
}

// mustNext fails unless Next returns these keys, one after the other, each with
// its bag.
func mustNext(t *testing.T, c *fold.Cursor, v *vault.Vault, want ...string) {
	t.Helper()
	for _, key := range want {
		if c.Over(v) {
			t.Errorf("it is over before %q", key)
		}
		if p, ok := c.Next(v); !ok || p.Key != key || !bag.Same(p.Bag, v.Bag(key)) {
			t.Errorf("Next = %v, %v, and not %q", p, ok, key)
		}
	}
}

// mustEnd fails unless there is no next key.
func mustEnd(t *testing.T, c *fold.Cursor, v *vault.Vault) {
	t.Helper()
	for range 2 {
		if !c.Over(v) {
			t.Error("it is not over")
		}
		if p, ok := c.Next(v); ok || p.Key != "" || !bag.Same(p.Bag, api.Bag{}) {
			t.Errorf("Next = %v, %v, and not none", p, ok)
		}
	}
}

func mustBack(t *testing.T, c *fold.Cursor, key string, want bool) {
	t.Helper()
	if got := c.Back(key); got != want {
		t.Errorf("Back(%q) = %v", key, got)
	}
}

func mustDue(t *testing.T, c *fold.Cursor, want ...string) {
	t.Helper()
	if got := c.Due(); !slices.Equal(got, want) {
		t.Errorf("Due() = %q, and not %q", got, want)
	}
}

// P19.1, P19.2: the example.
func TestExample(t *testing.T) {
	k := of(home, 2, "k")
	v, c := holding(t, k...), fold.New(home)
	mustNext(t, c, v, k...)
	mustBack(t, c, k[0], true)
	mustNext(t, c, v, k[0])
	mustEnd(t, c, v)
}

// P19.1
func TestNew(t *testing.T) {
	for _, part := range []int{
		math.MinInt, -1 << 32, -16, -1, 16, 17, 255, 256, 256 + home, 1 << 16, 1 << 32, 1<<32 + home, math.MaxInt,
	} {
		if c := fold.New(part); c != nil {
			t.Errorf("New(%d) = %v", part, c)
		}
	}
	for part := range parts {
		c := fold.New(part)
		if c == nil {
			t.Fatalf("New(%d) is nil", part)
		}
		mustDue(t, c)
		for _, key := range of(part, 3, "k") {
			mustBack(t, c, key, false)
		}
		mustDue(t, c)
		mustEnd(t, c, empty())
	}
}

// P19.1: of each part all keys, and no others, from the lowest one on.
func TestNextOfEachPart(t *testing.T) {
	v := empty()
	keys := map[int][]string{}
	for i := range 200 {
		// Of numbers, the order of the bytes is not that of what they say, and
		// bytes are not signed.
		key := strconv.Itoa(i*7) + "\xff\x7f\x80a"[i%4:i%4+1]
		put(t, v, "x", key)
		keys[spot.Of(key)] = append(keys[spot.Of(key)], key)
	}
	for part := range parts {
		slices.Sort(keys[part])
		c := fold.New(part)
		mustNext(t, c, v, keys[part]...)
		mustEnd(t, c, v)
		if len(keys[part]) < 3 {
			t.Errorf("part %d has %q", part, keys[part])
		}
	}
}

// P19.1: the lowest and the greatest of all keys, keys of one byte and of as many
// as may be, and keys that others begin with.
func TestNextOfOddKeys(t *testing.T) {
	var l []string
	for _, start := range []string{"", "\x00", strings.Repeat("\x00", 31), "\xff", strings.Repeat("\xff", 31), "k", "kk"} {
		for b := range 256 {
			if key := start + string([]byte{byte(b)}); spot.Of(key) == home && len(l) < 150 {
				l = append(l, key)
			}
		}
	}
	slices.Sort(l)
	v, c := holding(t, l...), fold.New(home)
	mustNext(t, c, v, l...)
	mustEnd(t, c, v)
	for _, key := range l {
		mustBack(t, c, key, true)
	}
	mustDue(t, c, l...)
	mustNext(t, c, v, l...)
	mustEnd(t, c, v)
}

// P19.1: a part without keys has none, whatever others have.
func TestNextOfNoKeys(t *testing.T) {
	c := fold.New(home)
	mustEnd(t, c, holding(t))
	mustEnd(t, c, &vault.Vault{})
	k := of(home, 1, "k")
	mustNext(t, c, holding(t, k...), k...)
}

// P19.1: the bag is the one that the key has now, be it empty.
func TestNextHasTheBagOfNow(t *testing.T) {
	k := of(home, 2, "k")
	l := ledger.New(9)
	l.Write(api.Deed{Kind: api.DBag, Key: k[1]})
	v, c := vault.Open(l), fold.New(home)
	put(t, v, "twig", k[0])
	if p, ok := c.Next(v); !ok || p.Key != k[0] || !slices.Equal(bag.Texts(p.Bag), []string{"twig"}) {
		t.Errorf("Next = %v, %v", p, ok)
	}
	put(t, v, "leaf", k[0])
	mustBack(t, c, k[0], true)
	put(t, v, "moss", k[0])
	if p, ok := c.Next(v); !ok || p.Key != k[0] || !slices.Equal(bag.Texts(p.Bag), []string{"twig", "leaf", "moss"}) {
		t.Errorf("Next = %v, %v", p, ok)
	}
	if p, ok := c.Next(v); !ok || p.Key != k[1] || !bag.Same(p.Bag, api.Bag{}) {
		t.Errorf("Next = %v, %v", p, ok)
	}
	mustEnd(t, c, v)
}

// P19.1: keys that come behind the last one are met, and those that come before
// it are not.
func TestNextOfNewKeys(t *testing.T) {
	k := of(home, 6, "k")
	v, c := holding(t, k[1], k[3]), fold.New(home)
	mustNext(t, c, v, k[1])
	put(t, v, "x", k[0], k[2])
	mustNext(t, c, v, k[2])
	put(t, v, "x", k[5])
	mustNext(t, c, v, k[3], k[5])
	put(t, v, "x", k[4])
	mustEnd(t, c, v)
	late := of(home, 1, "z")[0]
	put(t, v, "x", late)
	mustNext(t, c, v, late)
	mustEnd(t, c, v)
}

// P19.1: the last key stands where it was, though it is gone, and whatever vault
// is gone through.
func TestNextAfterAKeyThatIsGone(t *testing.T) {
	k := of(home, 5, "k")
	v, c := holding(t, k[0], k[2]), fold.New(home)
	mustNext(t, c, v, k[0], k[2])
	v.Drop(home)
	mustEnd(t, c, v)
	put(t, v, "y", k[0], k[1], k[3])
	mustNext(t, c, v, k[3])
	mustEnd(t, c, v)
	mustNext(t, c, holding(t, k...), k[4])
	mustEnd(t, c, v)
	mustBack(t, c, k[4], true)
	mustEnd(t, c, v)
	mustDue(t, c)
}

// P19.1: due keys come first, the lowest one ahead, and move the last key
// neither back nor on.
func TestNextOfDueKeys(t *testing.T) {
	k := of(home, 6, "k")
	v, c := holding(t, k...), fold.New(home)
	mustNext(t, c, v, k[:4]...)
	for _, i := range []int{2, 0, 3} {
		mustBack(t, c, k[i], true)
	}
	mustNext(t, c, v, k[0])
	mustDue(t, c, k[2], k[3])
	mustBack(t, c, k[4], false)
	mustBack(t, c, k[1], true)
	mustNext(t, c, v, k[1])
	mustBack(t, c, k[1], true)
	mustBack(t, c, k[0], true)
	mustNext(t, c, v, k[0], k[1], k[2])
	mustBack(t, c, k[3], true)
	mustNext(t, c, v, k[3], k[4])
	mustDue(t, c)
	mustBack(t, c, k[2], true)
	mustNext(t, c, v, k[2], k[5])
	mustEnd(t, c, v)
}

// P19.1: due keys that v does not have are due no more once a greater one was
// returned, and greater ones stay.
func TestNextPassesDueKeysThatAreGone(t *testing.T) {
	k := of(home, 8, "k")
	c := fold.New(home)
	mustNext(t, c, holding(t, k...), k...)
	v := holding(t, k[2], k[5])
	for _, key := range k {
		mustBack(t, c, key, true)
	}
	mustDue(t, c, k...)
	mustNext(t, c, v, k[2])
	mustDue(t, c, k[3:]...)
	mustNext(t, c, v, k[5])
	mustDue(t, c, k[6:]...)
	mustEnd(t, c, v)
	mustDue(t, c)
	mustEnd(t, c, holding(t, k...))
}

// P19.1: if v has none of the due keys, none is due, and the next one is the one
// that comes by itself.
func TestNextWhenNoDueKeyIsThere(t *testing.T) {
	k := of(home, 4, "k")
	c := fold.New(home)
	mustNext(t, c, holding(t, k...), k[:3]...)
	mustBack(t, c, k[0], true)
	mustBack(t, c, k[2], true)
	mustNext(t, c, holding(t, k[1], k[3]), k[3])
	mustDue(t, c)
	mustEnd(t, c, holding(t, k...))
}

// P19.2: every key up to the last one, be it there or not, and no greater one.
func TestBack(t *testing.T) {
	k := of(home, 9, "k")
	for last := range k {
		v, c := holding(t, k[last]), fold.New(home)
		for _, key := range k {
			mustBack(t, c, key, false)
		}
		mustNext(t, c, v, k[last])
		var want []string
		for i, key := range k {
			mustBack(t, c, key, i <= last)
			if i <= last {
				want = append(want, key)
			}
			mustDue(t, c, want...)
		}
		mustNext(t, c, v, k[last])
		mustDue(t, c)
	}
}

// P19.2: what is not valid, or belongs to another part, is never due.
func TestBackOfWrongKeys(t *testing.T) {
	all := of(home, 1, "z")
	v, c := holding(t, all...), fold.New(home)
	mustNext(t, c, v, all...)
	refused := wrong()
	for part := range parts {
		if part != home {
			refused = append(refused, of(part, 2, "a")...)
		}
	}
	refused = append(refused, "\xff"+of(home, 1, "z")[0], of(home, 1, "zz")[0])
	for _, key := range refused {
		mustBack(t, c, key, false)
	}
	mustDue(t, c)
	mustEnd(t, c, v)
	long := of(home, 1, strings.Repeat("a", 30))[0]
	if len(long) < 31 || len(long) > 32 {
		t.Fatalf("%q is not long", long)
	}
	mustBack(t, c, long, true)
	mustDue(t, c, long)
}

// P19.2: a key that is due already is due once.
func TestBackAgain(t *testing.T) {
	k := of(home, 4, "k")
	v, c := holding(t, k...), fold.New(home)
	mustNext(t, c, v, k...)
	for _, i := range []int{3, 1, 3, 0, 1, 1, 3, 0} {
		mustBack(t, c, k[i], true)
	}
	mustDue(t, c, k[0], k[1], k[3])
	mustNext(t, c, v, k[0], k[1], k[3])
	mustEnd(t, c, v)
}

// P19.2: which keys may be due depends on the last one that was not, though lower
// ones were returned since.
func TestBackAfterADueKey(t *testing.T) {
	k := of(home, 5, "k")
	v, c := holding(t, k[1], k[2], k[3], k[4]), fold.New(home)
	mustNext(t, c, v, k[1], k[2], k[3])
	mustBack(t, c, k[1], true)
	mustNext(t, c, v, k[1])
	mustBack(t, c, k[3], true)
	mustBack(t, c, k[4], false)
	mustBack(t, c, k[0], true)
	mustDue(t, c, k[0], k[3])
}

// P19.2: in whatever order they were made due.
func TestDueIsInOrder(t *testing.T) {
	k := of(home, 12, "k")
	v := holding(t, k...)
	r := rand.New(rand.NewSource(1))
	for range 100 {
		c := fold.New(home)
		mustNext(t, c, v, k...)
		some := r.Perm(len(k))[:r.Intn(len(k)+1)]
		var want []string
		for _, i := range some {
			mustBack(t, c, k[i], true)
			want = append(want, k[i])
		}
		slices.Sort(want)
		for i := range want {
			mustDue(t, c, want[i:]...)
			mustNext(t, c, v, want[i])
		}
		mustEnd(t, c, v)
	}
}

// P19.2: a due key that v does not have leaves it over.
func TestOver(t *testing.T) {
	k := of(home, 4, "k")
	full, few, none := holding(t, k...), holding(t, k[1]), holding(t)
	c := fold.New(home)
	mustOver := func(wantFull, wantFew, wantNone bool) {
		t.Helper()
		if c.Over(full) != wantFull || c.Over(few) != wantFew || c.Over(none) != wantNone || !c.Over(nil) {
			t.Errorf("Over is %v, %v, %v, %v", c.Over(full), c.Over(few), c.Over(none), c.Over(nil))
		}
	}
	mustOver(false, false, true)
	mustNext(t, c, full, k[0])
	mustOver(false, false, true)
	mustNext(t, c, full, k[1])
	mustOver(false, true, true)
	mustNext(t, c, full, k[2], k[3])
	mustOver(true, true, true)
	mustBack(t, c, k[0], true)
	mustOver(false, true, true)
	mustBack(t, c, k[1], true)
	mustBack(t, c, k[3], true)
	mustOver(false, false, true)
	mustNext(t, c, full, k[0], k[1])
	mustOver(false, true, true)
	mustNext(t, c, full, k[3])
	mustOver(true, true, true)
}

// P19.2: Due, Over, and a Back that is refused, change nothing.
func TestAskingChangesNothing(t *testing.T) {
	k := of(home, 4, "k")
	v, c := holding(t, k...), fold.New(home)
	ask := func() {
		t.Helper()
		for range 3 {
			for _, w := range []*vault.Vault{nil, v, empty(), holding(t, k[3])} {
				c.Over(w)
			}
			c.Due()
			mustBack(t, c, k[3], false)
			mustBack(t, c, "", false)
		}
	}
	ask()
	mustNext(t, c, v, k[0])
	ask()
	mustNext(t, c, v, k[1], k[2])
	mustBack(t, c, k[1], true)
	mustBack(t, c, k[0], true)
	ask()
	mustDue(t, c, k[0], k[1])
	mustNext(t, c, v, k[0])
	ask()
	mustNext(t, c, v, k[1], k[3])
}

// P19.1: without a vault there is nothing, and the cursor stays as it is.
func TestNextOfNoVault(t *testing.T) {
	k := of(home, 3, "k")
	v, c := holding(t, k...), fold.New(home)
	mustEnd(t, c, nil)
	mustNext(t, c, v, k[:2]...)
	mustBack(t, c, k[0], true)
	mustEnd(t, c, nil)
	mustDue(t, c, k[0])
	mustNext(t, c, v, k[0], k[2])
	mustEnd(t, c, nil)
}

// P19.2, R3: of a nil cursor nothing is told.
func TestNoCursor(t *testing.T) {
	k := of(home, 2, "k")
	var c *fold.Cursor
	for _, v := range []*vault.Vault{nil, {}, empty(), holding(t, k...)} {
		mustEnd(t, c, v)
		mustDue(t, c)
		for _, key := range append(wrong(), k...) {
			mustBack(t, c, key, false)
		}
	}
}

// P19.1, R6: a cursor only reads what it goes through.
func TestVaultStays(t *testing.T) {
	k := of(home, 3, "k")
	l := ledger.New(9)
	v := vault.Open(l)
	put(t, v, "x", k...)
	l.Sync()
	c := fold.New(home)
	mustNext(t, c, v, k...)
	mustBack(t, c, k[1], true)
	mustNext(t, c, v, k[1])
	if l.Len() != 3 || l.Sure() != 3 || v.Dots() != 3 || !slices.Equal(v.Keys(home), k) {
		t.Errorf("there are %d deeds, and the keys %q", l.Len(), v.Keys(home))
	}
}

// overwrite changes l, and the memory behind it.
func overwrite[T any](l []T, x T) {
	l = l[:cap(l)]
	for i := range l {
		l[i] = x
	}
}

// P19.1, P19.2, R2: results are memory of the caller.
func TestResultsAreNewMemory(t *testing.T) {
	k := of(home, 5, "k")
	v, c := holding(t, k...), fold.New(home)
	for range 2 {
		for range k {
			p, _ := c.Next(v)
			overwrite(p.Bag.Values, api.Value{Data: "spoiled"})
		}
		for _, key := range k {
			if got := bag.Texts(v.Bag(key)); !slices.Equal(got, []string{"of " + key}) {
				t.Errorf("of %q there is %q", key, got)
			}
			mustBack(t, c, key, true)
			overwrite(c.Due(), "spoiled")
		}
		mustDue(t, c, k...)
	}
	first := c.Due()
	mustNext(t, c, v, k...)
	mustBack(t, c, k[4], true)
	if !slices.Equal(first, k) {
		t.Errorf("what Due returned became %q", first)
	}
}

// P19.1, R6: cursors have nothing to do with one another.
func TestCursorsAreApart(t *testing.T) {
	k := of(home, 4, "k")
	v := holding(t, k...)
	c, d := fold.New(home), fold.New(home)
	mustNext(t, c, v, k[0], k[1], k[2])
	mustBack(t, c, k[1], true)
	mustBack(t, d, k[1], false)
	mustDue(t, d)
	mustNext(t, d, v, k[0])
	mustNext(t, c, v, k[1], k[3])
	mustNext(t, d, v, k[1])
	var all sync.WaitGroup
	for part := range parts {
		own := of(part, 20, "w")
		all.Go(func() {
			v, c := empty(), fold.New(part)
			put(t, v, "x", own...)
			mustNext(t, c, v, own...)
			mustEnd(t, c, v)
		})
	}
	all.Wait()
}

// plain is a cursor as the chapter tells it, one sentence after the other.
type plain struct {
	part  int
	began bool // a key was returned without being due
	last  string
	due   map[string]int
}

func (p *plain) next(keys []string) (string, bool) {
	for _, key := range slices.Sorted(maps.Keys(p.due)) {
		delete(p.due, key)
		if slices.Contains(keys, key) {
			return key, true
		}
	}
	for _, key := range keys {
		if !p.began || key > p.last {
			p.began, p.last = true, key
			return key, true
		}
	}
	return "", false
}

func (p *plain) back(key string) bool {
	if len(key) < 1 || len(key) > 32 || spot.Of(key) != p.part || !p.began || key > p.last {
		return false
	}
	p.due[key] = 1
	return true
}

func (p *plain) over(keys []string) bool {
	copied := plain{part: p.part, began: p.began, last: p.last, due: maps.Clone(p.due)}
	_, ok := copied.next(keys)
	return !ok
}

// P19.1, P19.2: every call returns what the chapter says, of vaults that change.
func TestDrawnCalls(t *testing.T) {
	r := rand.New(rand.NewSource(2))
	told, ends := 0, 0
	for range 400 {
		part := r.Intn(parts)
		keys := append(of(part, 1+r.Intn(12), "k"), "", strings.Repeat("k", 33), of((part+1)%parts, 1, "a")[0])
		anyKey := func() string { return keys[r.Intn(len(keys))] }
		vaults := []*vault.Vault{empty(), empty()}
		c, p := fold.New(part), &plain{part: part, due: map[string]int{}}
		for range 120 {
			v := vaults[max(0, r.Intn(12)-10)]
			switch r.Intn(12) {
			case 0, 1:
				v.Put(1, anyKey(), api.Vector{}, "x")
			case 2:
				if r.Intn(9) == 0 {
					v.Drop(part)
				}
			case 3, 4, 5, 6, 7, 8:
				key := anyKey()
				mustBack(t, c, key, p.back(key))
			default:
				if key, ok := p.next(v.Keys(part)); ok {
					told++
					mustNext(t, c, v, key)
				} else {
					ends++
					mustEnd(t, c, v)
				}
			}
			mustDue(t, c, slices.Sorted(maps.Keys(p.due))...)
			for _, w := range vaults {
				if got, want := c.Over(w), p.over(w.Keys(part)); got != want {
					t.Errorf("Over = %v", got)
				}
			}
			if t.Failed() {
				return
			}
		}
	}
	if told < 5000 || ends < 1000 {
		t.Errorf("%d keys were returned, and %d times none", told, ends)
	}
}

// P19.3: whatever is written while it goes on, and told to the cursor, each key
// is returned with the bag that it has in the end.
func TestEachKeyIsReturned(t *testing.T) {
	r := rand.New(rand.NewSource(3))
	for range 200 {
		keys := of(home, 1+r.Intn(25), "k")
		v, c := holding(t, keys[r.Intn(len(keys)):]...), fold.New(home)
		got := map[string]api.Bag{}
		writes := r.Intn(60)
		for step := range 200 {
			if step < writes && r.Intn(3) > 0 {
				key := keys[r.Intn(len(keys))]
				v.Put(1, key, v.Bag(key).Known, strconv.Itoa(step))
				c.Back(key)
				continue
			}
			if p, ok := c.Next(v); ok {
				got[p.Key] = p.Bag
			}
		}
		mustEnd(t, c, v)
		mustDue(t, c)
		for _, key := range v.Keys(home) {
			if !bag.Same(got[key], v.Bag(key)) {
				t.Fatalf("of %q %v was returned, and there is %v", key, got[key], v.Bag(key))
			}
		}
		if len(got) != len(v.Keys(home)) {
			t.Fatalf("%d keys were returned, and there are %q", len(got), v.Keys(home))
		}
	}
}

// P19.3: each key once, and once more after each Back that comes after it.
func TestEachBackReturnsItsKey(t *testing.T) {
	r := rand.New(rand.NewSource(4))
	for range 100 {
		keys := of(home, 1+r.Intn(20), "k")
		v, c := holding(t, keys...), fold.New(home)
		want, got := map[string]int{}, map[string]int{}
		for _, key := range keys {
			want[key] = 1
		}
		for step := range 250 {
			if step < 80 && r.Intn(2) == 0 {
				key := keys[r.Intn(len(keys))]
				isDue := slices.Contains(c.Due(), key)
				if c.Back(key) && !isDue {
					want[key]++
				}
				continue
			}
			if p, ok := c.Next(v); ok {
				got[p.Key]++
			}
		}
		mustEnd(t, c, v)
		if !maps.Equal(got, want) {
			t.Fatalf("the keys were returned %v times, and not %v", got, want)
		}
	}
}
