package claim_test

import (
	"math"
	"math/bits"
	"math/rand"
	"slices"
	"strings"
	"sync"
	"testing"

	"starling/api"
	"starling/claim"
)

// row is a number for each letter: a digit, or -1.
func row(s string) []int {
	var l []int
	for _, c := range []byte(s) {
		if c == '-' {
			l = append(l, -1)
		} else {
			l = append(l, int(c-'0'))
		}
	}
	return l
}

// notNodes are numbers that are not nodes.
func notNodes() []int {
	return []int{-1, -2, -8, 8, 9, 16, 255, 256, 1 << 32, math.MaxInt, math.MinInt, math.MinInt + 1}
}

// drawn is n numbers that r draws, most of them nodes below most.
func drawn(r *rand.Rand, n, most int) []int {
	var l []int
	for range n {
		if r.Intn(8) == 0 {
			l = append(l, notNodes()[r.Intn(len(notNodes()))])
		} else {
			l = append(l, r.Intn(most))
		}
	}
	return l
}

// eachDrawn calls check with many distributions of the parts and many lists of
// members, short and long, orderly and not.
func eachDrawn(seed int64, check func(now, members []int)) {
	r := rand.New(rand.NewSource(seed))
	for i := range 20000 {
		n := 16
		if i%4 == 0 {
			n = r.Intn(24)
		}
		check(drawn(r, n, 1+r.Intn(8)), drawn(r, r.Intn(13), 1+r.Intn(8)))
	}
}

// ownerIn is the node to which part belongs in now, or -1.
func ownerIn(now []int, part int) int {
	if part < len(now) && now[part] >= 0 && now[part] <= 7 {
		return now[part]
	}
	return -1
}

// has is how many parts belong to node in now.
func has(now []int, node int) int {
	n := 0
	for part := range 16 {
		if ownerIn(now, part) == node {
			n++
		}
	}
	return n
}

// plainMembers does what the chapter says, node by node.
func plainMembers(l []int) []int {
	var out []int
	for node := range 8 {
		if slices.Contains(l, node) {
			out = append(out, node)
		}
	}
	return out
}

// plainQuotas does what the chapter says: who is to have one more stands first
// in a list of all members.
func plainQuotas(now, members []int) []int {
	nodes := plainMembers(members)
	var first, then, out []int
	for _, node := range nodes {
		if has(now, node) > 16/len(nodes) {
			first = append(first, node)
		} else {
			then = append(then, node)
		}
	}
	order := append(first, then...)
	for _, node := range nodes {
		quota := 16 / len(nodes)
		if slices.Index(order, node) < 16%len(nodes) {
			quota++
		}
		out = append(out, quota)
	}
	return out
}

// plainAssign does what the chapter says, and counts anew at each part.
func plainAssign(now, members []int) []int {
	nodes, quotas := plainMembers(members), plainQuotas(now, members)
	if len(nodes) == 0 {
		return nil
	}
	to := slices.Repeat([]int{-1}, 16)
	lack := func(node int) int {
		i := slices.Index(nodes, node)
		if i < 0 {
			return 0
		}
		return quotas[i] - has(to, node)
	}
	for part := range to {
		if node := ownerIn(now, part); lack(node) > 0 {
			to[part] = node
		}
	}
	for part := range to {
		if to[part] >= 0 {
			continue
		}
		var some, apart []int
		for _, node := range nodes {
			if lack(node) > 0 {
				some = append(some, node)
				if to[(part+15)%16] != node && to[(part+1)%16] != node {
					apart = append(apart, node)
				}
			}
		}
		if len(apart) > 0 {
			some = apart
		}
		slices.SortStableFunc(some, func(a, b int) int { return lack(b) - lack(a) })
		to[part] = some[0]
	}
	return to
}

// plainMoves puts -1 where a number is missing.
func plainMoves(a, b []int) int {
	a = append(slices.Clone(a), slices.Repeat([]int{-1}, 16)...)
	b = append(slices.Clone(b), slices.Repeat([]int{-1}, 16)...)
	n := 0
	for part := range 16 {
		if a[part] != b[part] {
			n++
		}
	}
	return n
}

func mustMembers(t *testing.T, l []int, want ...int) {
	t.Helper()
	if got := claim.Members(l); !slices.Equal(got, want) {
		t.Errorf("Members(%v) = %v, not %v", l, got, want)
	}
}

func mustQuotas(t *testing.T, now, members []int, want ...int) {
	t.Helper()
	if got := claim.Quotas(now, members); !slices.Equal(got, want) {
		t.Errorf("Quotas(%v, %v) = %v, not %v", now, members, got, want)
	}
}

func mustAssign(t *testing.T, now, members []int, want ...int) {
	t.Helper()
	if got := claim.Assign(now, members); !slices.Equal(got, want) {
		t.Errorf("Assign(%v, %v) = %v, not %v", now, members, got, want)
	}
}

func mustMove(t *testing.T, a, b []int, want int) {
	t.Helper()
	if got := claim.Moves(a, b); got != want {
		t.Errorf("Moves(%v, %v) = %d, not %d", a, b, got, want)
	}
	if got := claim.Moves(b, a); got != want {
		t.Errorf("Moves(%v, %v) = %d, not %d", b, a, got, want)
	}
}

// P8.1
func TestMembers(t *testing.T) {
	mustMembers(t, nil)
	mustMembers(t, []int{})
	mustMembers(t, []int{0}, 0)
	mustMembers(t, []int{7, 0}, 0, 7)
	mustMembers(t, row("76543210"), 0, 1, 2, 3, 4, 5, 6, 7)
	mustMembers(t, row("5353355"), 3, 5)
	mustMembers(t, []int{8, -1, 2, 9, 2}, 2)
	mustMembers(t, notNodes())
	mustMembers(t, append(notNodes(), 4, 1, 4), 1, 4)
	mustMembers(t, slices.Repeat(row("601"), 100000), 0, 1, 6)
}

// P8.1: every set of nodes, there and back, twice.
func TestMembersOfEverySet(t *testing.T) {
	for set := range 256 {
		var want, l []int
		for node := range 8 {
			if set>>node&1 == 1 {
				want = append(want, node)
				l = append([]int{node, -1}, append(l, node, 8)...)
			}
		}
		mustMembers(t, l, want...)
	}
}

// P8.1: all is even where nobody has anything.
func TestQuotasOfNobody(t *testing.T) {
	for members, want := range map[string]string{
		"": "", "0": "@", "4": "@", "01": "88", "67": "88", "012": "655", "357": "655",
		"0123": "4444", "01234": "43333", "34567": "43333", "012345": "333322",
		"0123456": "3322222", "1234567": "3322222", "01234567": "22222222",
	} {
		mustQuotas(t, nil, row(members), row(want)...)
		mustQuotas(t, row("----------------"), row(members), row(want)...)
	}
}

// P8.1: who has more than its share is the first to have one more.
func TestQuotas(t *testing.T) {
	for _, x := range []struct{ now, members, want string }{
		{"0000000011111111", "012", "655"},
		{"1111111100000000", "012", "655"},
		{"0000011111222222", "012", "556"}, // 5 are not more than 5
		{"0000011111122222", "012", "565"},
		{"2222221111111111", "012", "565"}, // two of them, and one over
		{"2222221111000000", "012", "655"},
		{"7777777777777777", "036", "655"}, // no member has anything
		{"7777777777777777", "0367", "4444"},
		{"7777777777777777", "03567", "33334"},
		{"7777777777777777", "023567", "333223"}, // one has more, three others follow it
		{"7777666655554444", "0123456", "2222332"},
		{"7777666655554444", "34567", "34333"},
		{"7777666655554440", "023467", "322333"},
		{"7666777666777667", "1234567", "2222233"},
		{"3333345555567777", "03567", "34333"},
		{"1112223334440000", "01234", "43333"},
		{"1111222233330000", "01234", "43333"},
		{"4444----8888----", "01234", "33334"},
	} {
		mustQuotas(t, row(x.now), row(x.members), row(x.want)...)
	}
}

// P8.1: the members may stand in any order, more than once, and among others.
func TestQuotasOfDisorder(t *testing.T) {
	now := row("0000011111222222")
	for _, members := range [][]int{row("012"), row("210"), row("1201120"), {2, 8, 1, -1, 0}, append(notNodes(), 1, 0, 2)} {
		mustQuotas(t, now, members, 5, 5, 6)
	}
	mustQuotas(t, now, notNodes())
	mustQuotas(t, now, nil)
	mustQuotas(t, nil, nil)
}

// P8.1: what is behind the last part does not count, and what is missing does
// not either.
func TestQuotasOfOtherLengths(t *testing.T) {
	now := row("222220000011111-")
	mustQuotas(t, now, row("012"), 6, 5, 5)
	mustQuotas(t, append(now, row("2222222222")...), row("012"), 6, 5, 5)
	mustQuotas(t, row("22222"), row("012"), 6, 5, 5)
	mustQuotas(t, row("222222"), row("012"), 5, 5, 6)
	mustQuotas(t, append(notNodes()[:9], row("2222222")...), row("012"), 5, 5, 6)
	mustQuotas(t, append(notNodes()[:11], row("2222222")...), row("012"), 6, 5, 5)
}

// P8.1
func TestQuotasAgainstPlainOnes(t *testing.T) {
	eachDrawn(1, func(now, members []int) {
		mustMembers(t, members, plainMembers(members)...)
		mustQuotas(t, now, members, plainQuotas(now, members)...)
	})
}

// P8.2: the example.
func TestAssignAllOfOne(t *testing.T) {
	mustAssign(t, row("0000000000000000"), row("01"), row("0000000011111111")...)
}

// P8.2: worked out from the chapter apart from the program.
func TestAssign(t *testing.T) {
	for _, x := range []struct {
		now, members, want string
		moves              int
	}{
		{"0000000000000000", "0", "0000000000000000", 0},
		{"", "7", "7777777777777777", 16},
		{"----------------", "01", "0101010101010101", 16},
		{"----------------", "012", "0102012012012012", 16},
		{"----------------", "01234567", "0123456701234567", 16},
		{"0000000000000000", "01234567", "0012345671234567", 14},
		{"0011223344556677", "0123456", "0011223344556601", 2},
		{"0011223344556677", "1357", "1311573313557577", 8},
		{"7777777777777777", "036", "0306036036036036", 16},
		{"01234567", "01234567", "0123456701234567", 8},
		{"0123456701234567", "01234", "0123401201234034", 6},
		{"01-------------1", "012", "0102020120120121", 13},
		{"0000000000111111", "01234", "0000234234111234", 9},
		{"5555555522222222", "25", "5555555522222222", 0},
		{"0000011111222223", "0123", "0000311113222233", 3},
		{"-2-2-2-2-0-0-0-1", "012", "0212120210102001", 8},
		{"1111100000000000", "012", "1111100000022222", 5},
	} {
		mustAssign(t, row(x.now), row(x.members), row(x.want)...)
		mustMove(t, row(x.now), row(x.want), x.moves)
	}
}

// P8.2: part 0 goes to 1, though 0 lacks more: 0 has the part beside it, which
// is the next one, or the previous one, the last of all.
func TestAssignApart(t *testing.T) {
	want := row("1010011101010100")
	mustAssign(t, row("-0---111--------"), row("01"), want...)
	mustAssign(t, row("-----111-------0"), row("01"), want...)
}

// P8.2: between parts of both members, part 4 goes to the one that lacks more,
// and to the lower one if both lack equally many.
func TestAssignBetween(t *testing.T) {
	mustAssign(t, row("1110-10101010---"), row("01"), row("1110010101010100")...)
	mustAssign(t, row("0001-01010101---"), row("01"), row("0001101010101011")...)
	mustAssign(t, row("0011-0110010110-"), row("01"), row("0011001100101101")...)
}

// P8.2: without members nothing is assigned, whatever now is.
func TestAssignToNobody(t *testing.T) {
	for _, now := range [][]int{nil, row("0000000000000000"), row("----------------"), notNodes()} {
		mustAssign(t, now, nil)
		mustAssign(t, now, []int{})
		mustAssign(t, now, notNodes())
	}
}

// P8.2: the members may stand in any order, more than once, and among others.
func TestAssignToDisorder(t *testing.T) {
	now, want := row("-2-2-2-2-0-0-0-1"), row("0212120210102001")
	for _, members := range [][]int{row("012"), row("210"), row("1201120"), {2, 8, 1, -1, 0}, append(notNodes(), 1, 0, 2)} {
		mustAssign(t, now, members, want...)
	}
}

// P8.2: every number that is not a node stands for nobody, and so does a
// missing one; what is behind the last part does not count.
func TestAssignOfWrongNow(t *testing.T) {
	want := row("0102020120120121")
	for _, n := range notNodes() {
		now := append([]int{0, 1}, slices.Repeat([]int{n}, 13)...)
		now = append(now, 1)
		mustAssign(t, now, row("012"), want...)
		mustAssign(t, append(now, row("22222222")...), row("012"), want...)
	}
	mustAssign(t, row("00"), row("01"), row("0010101010101011")...)
	mustAssign(t, slices.Repeat([]int{1}, 100000), row("01"), row("1111111100000000")...)
}

// P8.2
func TestAssignAgainstPlainOne(t *testing.T) {
	eachDrawn(2, func(now, members []int) {
		mustAssign(t, now, members, plainAssign(now, members)...)
	})
}

// P8.2
func TestMoves(t *testing.T) {
	mustMove(t, nil, nil, 0)
	mustMove(t, nil, []int{}, 0)
	mustMove(t, nil, row("----"), 0)
	mustMove(t, nil, row("-0-"), 1)
	mustMove(t, row("01"), row("01"), 0)
	mustMove(t, row("01"), row("10"), 2)
	mustMove(t, row("01"), row("0"), 1)
	mustMove(t, row("0-"), row("0"), 0)
	mustMove(t, nil, row("0000000000000000"), 16)
	mustMove(t, row("0000000000000000"), row("0000000000000001"), 1)
	mustMove(t, row("0000000000000000"), row("1000000000000000"), 1)
	mustMove(t, row("00000000000000000"), row("00000000000000001"), 0)
	mustMove(t, row("0000000000000000"), row("00000000000000001"), 0)
	mustMove(t, nil, row("----------------7"), 0)
}

// P8.2: numbers that are not nodes differ as other numbers do.
func TestMovesOfWrongNumbers(t *testing.T) {
	for i, a := range notNodes() {
		for j, b := range notNodes() {
			want := 0
			if i != j {
				want = 1
			}
			mustMove(t, []int{3, a}, []int{3, b}, want)
		}
	}
	mustMove(t, []int{-2}, nil, 1)
	mustMove(t, []int{8}, nil, 1)
	mustMove(t, slices.Repeat([]int{8}, 100000), slices.Repeat([]int{9}, 99999), 16)
}

// P8.2
func TestMovesAgainstPlainOnes(t *testing.T) {
	eachDrawn(3, func(a, b []int) {
		mustMove(t, a, b, plainMoves(a, b))
	})
}

// P8.3
func TestEachMemberHasItsQuota(t *testing.T) {
	eachDrawn(4, func(now, members []int) {
		to, sum := claim.Assign(now, members), 0
		quotas := claim.Quotas(now, members)
		for i, node := range claim.Members(members) {
			if got := has(to, node); got != quotas[i] {
				t.Errorf("%v to %v: %d has %d parts, and its quota is %d", now, members, node, got, quotas[i])
			}
			sum += quotas[i]
		}
		if len(to) != sum || sum != 0 && sum != api.Parts {
			t.Errorf("%v to %v: %d parts, and quotas of %d in all", now, members, len(to), sum)
		}
	})
}

// mostKept is how many parts can stay where they are at the most, whoever of
// the n members are those that have one more.
func mostKept(now, nodes []int) int {
	best, n := 0, len(nodes)
	for set := range 1 << n {
		if bits.OnesCount(uint(set)) != 16%n {
			continue
		}
		kept := 0
		for i, node := range nodes {
			kept += min(has(now, node), 16/n+set>>i&1)
		}
		best = max(best, kept)
	}
	return best
}

// P8.3: no more parts move than must.
func TestOnlyWhatNobodyKeptMoves(t *testing.T) {
	eachDrawn(5, func(now, members []int) {
		nodes := claim.Members(members)
		if len(nodes) == 0 {
			return
		}
		to := claim.Assign(now, members)
		if got, want := claim.Moves(now, to), 16-mostKept(now, nodes); got != want {
			t.Errorf("%v to %v: %d parts move, not %d", now, members, got, want)
		}
		for _, node := range nodes {
			mustKeepLowest(t, now, to, node)
		}
	})
}

// mustKeepLowest asks that node, once it has given up a part, keeps no part
// behind it.
func mustKeepLowest(t *testing.T, now, to []int, node int) {
	t.Helper()
	gaveUp := false
	for part := range 16 {
		if ownerIn(now, part) != node {
			continue
		}
		if gaveUp && to[part] == node {
			t.Errorf("%v to %v: %d keeps part %d, and not the ones before it", now, to, node, part)
		}
		gaveUp = gaveUp || to[part] != node
	}
}

// P8.3
func TestNothingMovesAgain(t *testing.T) {
	eachDrawn(6, func(now, members []int) {
		to := claim.Assign(now, members)
		mustAssign(t, to, members, to...)
		mustQuotas(t, to, members, claim.Quotas(now, members)...)
		if got := claim.Moves(to, claim.Assign(to, members)); got != 0 {
			t.Errorf("%v to %v: %d parts move again", now, members, got)
		}
	})
}

// P8.3: members come one after the other, and go again.
func TestComingAndGoing(t *testing.T) {
	now := claim.Assign(nil, row("0"))
	for _, x := range []struct {
		members string
		moves   int
	}{
		{"01", 8}, {"012", 5}, {"0123", 4}, {"01234", 3}, {"012345", 2}, {"0123456", 2}, {"01234567", 2},
		{"01234567", 0}, {"1234567", 2}, {"134567", 3}, {"14567", 3}, {"1457", 3}, {"157", 4}, {"57", 6}, {"5", 8},
	} {
		next := claim.Assign(now, row(x.members))
		mustMove(t, now, next, x.moves)
		now = next
	}
	mustMove(t, now, row(strings.Repeat("5", 16)), 0)
}

// R2: arguments stay as they are, up to the end of their memory.
func TestArgumentsStay(t *testing.T) {
	eachDrawn(7, func(now, members []int) {
		nowAll := append(slices.Clone(now), row("7654321076543210")...)
		membersAll := append(slices.Clone(members), row("01234567")...)
		nowWas, membersWas := slices.Clone(nowAll), slices.Clone(membersAll)
		now, members = nowAll[:len(now)], membersAll[:len(members)]
		mustMembers(t, members, plainMembers(members)...)
		mustQuotas(t, now, members, plainQuotas(now, members)...)
		mustAssign(t, now, members, plainAssign(now, members)...)
		mustMove(t, now, members, plainMoves(now, members))
		if !slices.Equal(nowAll, nowWas) || !slices.Equal(membersAll, membersWas) {
			t.Errorf("%v, %v: the arguments have changed", nowWas, membersWas)
		}
	})
}

// R2: an answer is the caller's alone.
func TestAnswersAreNewMemory(t *testing.T) {
	members, now := row("012"), row("0000001111122222")
	answers := func() [][]int {
		return [][]int{claim.Members(members), claim.Quotas(now, members), claim.Assign(now, members)}
	}
	want := answers()
	for _, l := range answers() {
		l = l[:cap(l)]
		for i := range l {
			l[i] = 99
		}
	}
	if !slices.Equal(members, row("012")) || !slices.Equal(now, row("0000001111122222")) {
		t.Errorf("the answers share memory with the arguments: %v, %v", members, now)
	}
	for i, l := range answers() {
		if !slices.Equal(l, want[i]) {
			t.Errorf("answer %d was %v, and is %v", i, want[i], l)
		}
	}
}

// R6: nothing is kept from call to call, in whatever order the calls come.
func TestNothingIsKept(t *testing.T) {
	r := rand.New(rand.NewSource(8))
	var nows, members [][]int
	for range 200 {
		nows, members = append(nows, drawn(r, 16, 8)), append(members, drawn(r, 5, 8))
	}
	var all sync.WaitGroup
	for range 4 {
		order := r.Perm(len(nows))
		all.Go(func() {
			for _, i := range order {
				mustAssign(t, nows[i], members[i], plainAssign(nows[i], members[i])...)
				mustQuotas(t, nows[i], members[i], plainQuotas(nows[i], members[i])...)
			}
		})
	}
	all.Wait()
}
