package seals_test

import (
	"errors"
	"math"
	"slices"
	"testing"

	"cohort/api"
	"cohort/fault"
	"cohort/seals"
)

// last is the last place in a group.
const last = 3 * api.MaxF

// pair is a principal and a digest.
type pair struct{ who, digest int }

// far are numbers that are nobody's, no group and no place; some of them are small ones again once they are multiplied, or cut short.
func far() []int {
	return []int{
		math.MinInt, math.MinInt + 1, math.MinInt + api.FirstMember, math.MaxInt, math.MaxInt - api.FirstMember,
		1 << 8, 1 << 16, 1 << 31, 1 << 32, 1<<32 + 1, 1<<32 + api.FirstMember, 1 << 60, 1 << 62,
		-1 << 31, -1 << 32, -1<<32 + 3, -1 << 60,
	}
}

// nobodies are numbers that are no principal's: at each edge, between the groups, and far off.
func nobodies() []int {
	l := []int{-1, -2, -15, -16, -100, -135, api.MaxClients, api.MaxClients + 1, 50, api.FirstMember - 2, api.FirstMember - 1}
	for g := range api.MaxGroups {
		for i := last + 1; i < api.PerGroup; i++ {
			l = append(l, api.FirstMember+api.PerGroup*g+i)
		}
	}
	behind := api.FirstMember + api.PerGroup*api.MaxGroups
	l = append(l, behind-1, behind, behind+1, behind+last, behind+last+1, behind+api.PerGroup)
	return append(l, far()...)
}

// principals are the numbers of all clients and members, as the chapter counts them.
func principals() []int {
	var l []int
	for i := range 16 {
		l = append(l, i)
	}
	for g := range 8 {
		for i := range 10 {
			l = append(l, 100+16*g+i)
		}
	}
	return l
}

// of is seals of pairs, each of them a new one.
func of(t *testing.T, pairs ...pair) *seals.Seals {
	t.Helper()
	s := seals.New()
	for i, p := range pairs {
		sign(t, s, p.who, p.digest, i+1)
	}
	return s
}

// sign holds that a principal may sign, and how many seals there are then.
func sign(t *testing.T, s *seals.Seals, who, digest, many int) {
	t.Helper()
	if err := s.Sign(who, digest); err != nil || !s.Signed(who, digest) || s.Many() != many {
		t.Errorf("%d signs %d: error %v, signed %v, %d seals, not %d", who, digest, err, s.Signed(who, digest), s.Many(), many)
	}
}

// refused holds that a seal may not be, and that nothing came of it: a number wrapped once, by seals and the principal.
func refused(t *testing.T, s *seals.Seals, who, digest int, e api.Errno) {
	t.Helper()
	many, there := s.Many(), s.Signed(who, digest)
	err := s.Sign(who, digest)
	if fault.Code(err) != e || !errors.Is(err, e) || !slices.Equal(fault.Trail(err), []api.Step{{Where: "seals", At: who}}) {
		t.Errorf("%d signs %d: error %q, not %d", who, digest, fault.Text(err), e)
	}
	if s.Many() != many || s.Signed(who, digest) != there {
		t.Errorf("%d signs %d: refused, but %d seals, not %d, signed %v", who, digest, s.Many(), many, s.Signed(who, digest))
	}
}

// has holds that just these seals are there, of some digests whoever may have signed them.
func has(t *testing.T, s *seals.Seals, digests []int, pairs ...pair) {
	t.Helper()
	if s.Many() != len(pairs) {
		t.Errorf("there are %d seals, not %d", s.Many(), len(pairs))
	}
	for _, d := range digests {
		for _, who := range append(principals(), nobodies()...) {
			if want := slices.Contains(pairs, pair{who, d}); s.Signed(who, d) != want {
				t.Errorf("%d signed %d: %v, not %v", who, d, !want, want)
			}
		}
		for g := -1; g <= api.MaxGroups; g++ {
			var want []int
			for i := range last + 1 {
				if slices.Contains(pairs, pair{100 + 16*g + i, d}) {
					want = append(want, i)
				}
			}
			places(t, s, g, d, want...)
		}
	}
}

// places holds the places of a group's members who signed a digest against what they should be.
func places(t *testing.T, s *seals.Seals, group, digest int, want ...int) {
	t.Helper()
	if l := s.Who(group, digest); !slices.Equal(l, want) {
		t.Errorf("of group %d %v signed %d, not %v", group, l, digest, want)
	}
}

// fill is seals of so many digests, from 0 on, which the principals sign in turn.
func fill(t *testing.T, many int) *seals.Seals {
	t.Helper()
	s, l := seals.New(), principals()
	for i := range many {
		if err := s.Sign(l[i%len(l)], i/len(l)); err != nil || s.Many() != i+1 {
			t.Fatalf("seal %d: error %v, %d seals", i, err, s.Many())
		}
	}
	return s
}

// P4.1 (D1): a client's number is its own; others are none.
func TestClient(t *testing.T) {
	for i := range api.MaxClients {
		if n := seals.Client(i); n != i {
			t.Errorf("client %d is %d", i, n)
		}
	}
	for _, i := range append(far(), -1, -2, -16, api.MaxClients, api.MaxClients+1, api.FirstMember, 135) {
		if n := seals.Client(i); n != -1 {
			t.Errorf("client %d is %d", i, n)
		}
	}
}

// P4.1 (D1): the chapter's examples, and the edges of groups and places.
func TestMember(t *testing.T) {
	for _, c := range []struct{ group, place, who int }{
		{2, 3, 135}, {0, 0, 100}, {0, 9, 109}, {1, 0, 116}, {6, 9, 205}, {7, 0, 212}, {7, 9, 221},
		{0, -1, -1}, {0, 10, -1}, {3, 16, -1}, {7, 10, -1}, {7, -1, -1}, {8, 0, -1}, {8, 9, -1}, {-1, 0, -1}, {-1, 9, -1},
		{1, -16, -1}, {-1, 16, -1}, {-1, -1, -1}, {8, 10, -1},
	} {
		if who := seals.Member(c.group, c.place); who != c.who {
			t.Errorf("member %d of group %d is %d, not %d", c.place, c.group, who, c.who)
		}
	}
	for _, n := range far() {
		for _, c := range [][2]int{{n, 0}, {0, n}, {n, n}, {n, last}, {api.MaxGroups - 1, n}, {n, -n}, {n, -16 * n}} {
			if who := seals.Member(c[0], c[1]); who != -1 {
				t.Errorf("member %d of group %d is %d", c[1], c[0], who)
			}
		}
	}
}

// P4.1 (D1): each member's group and place are those that it is a member by.
func TestGroup(t *testing.T) {
	if g, i := seals.Group(135); g != 2 || i != 3 {
		t.Errorf("135 is member %d of group %d", i, g)
	}
	for g := range 8 {
		for i := range 10 {
			who := seals.Member(g, i)
			if who != 100+16*g+i {
				t.Errorf("member %d of group %d is %d", i, g, who)
			}
			if group, place := seals.Group(who); group != g || place != i {
				t.Errorf("%d is member %d of group %d, not %d of %d", who, place, group, i, g)
			}
		}
	}
}

// P4.1 (D1): clients, and nobodies, are of no group.
func TestGroupOfOthers(t *testing.T) {
	for _, who := range append(nobodies(), principals()[:16]...) {
		if g, i := seals.Group(who); g != -1 || i != -1 {
			t.Errorf("%d is member %d of group %d", who, i, g)
		}
	}
}

// P4.2: principals' numbers are all unlike; those of all whole numbers near them are just they.
func TestNumbersAreAllUnlike(t *testing.T) {
	var l []int
	for i := -5; i < 300; i++ {
		if n := seals.Client(i); n != -1 {
			l = append(l, n)
		}
	}
	for g := -5; g < 300; g++ {
		for i := -300; i < 300; i++ {
			if n := seals.Member(g, i); n != -1 {
				l = append(l, n)
			}
		}
	}
	if slices.Sort(l); !slices.Equal(l, principals()) {
		t.Errorf("principals are %v", l)
	}
	members := 0
	for who := -1000; who < 1000; who++ {
		g, i := seals.Group(who)
		if (g == -1) != (i == -1) || g != -1 && seals.Member(g, i) != who {
			t.Errorf("%d is member %d of group %d", who, i, g)
		}
		if g != -1 {
			members++
		}
	}
	if members != 80 {
		t.Errorf("there are %d members", members)
	}
}

// P4.1 (D2, D3): new ones are empty, and nobody else's.
func TestNewSealsAreEmpty(t *testing.T) {
	s := seals.New()
	has(t, s, []int{0, 1, -1})
	sign(t, s, 0, 0, 1)
	has(t, seals.New(), []int{0})
}

// P4.1 (D2): whoever is somebody may sign, a digest from 0 on, as great as it may be.
func TestWhoMaySign(t *testing.T) {
	s := seals.New()
	var pairs []pair
	digests := []int{0, 1, api.MaxDigests, 1 << 32, math.MaxInt}
	for _, d := range digests {
		for _, who := range principals() {
			pairs = append(pairs, pair{who, d})
			sign(t, s, who, d, len(pairs))
		}
	}
	has(t, s, append(digests, 2, -1, api.MaxDigests-1, math.MaxInt-1), pairs...)
}

// P4.1 (D2): nobody may sign, and nothing comes of it.
func TestNobodySigns(t *testing.T) {
	pairs := []pair{{0, 5}, {15, 5}, {100, 5}, {221, 5}}
	s := of(t, pairs...)
	for _, who := range nobodies() {
		for _, d := range []int{5, 0, -1, math.MaxInt, math.MinInt} {
			refused(t, s, who, d, api.ErrArg)
		}
	}
	has(t, s, []int{5, 0, -1, math.MaxInt, math.MinInt}, pairs...)
}

// P4.1 (D2): a digest below 0 is none, whoever signs it; the error tells who did.
func TestDigestsThatAreNone(t *testing.T) {
	s := of(t, pair{3, 1}, pair{135, 1})
	for _, who := range principals() {
		for _, d := range []int{-1, -2, -1 << 31, -1 << 32, math.MinInt} {
			refused(t, s, who, d, api.ErrArg)
		}
	}
	has(t, s, []int{1, 0, -1, -2, -1 << 31, -1 << 32, math.MinInt}, pair{3, 1}, pair{135, 1})
	for _, c := range []struct {
		who, digest int
		text        string
	}{
		{3, -1, "seals 3: cohort: error 1"},
		{135, -7, "seals 135: cohort: error 1"},
		{99, 0, "seals 99: cohort: error 1"},
		{-1, -1, "seals -1: cohort: error 1"},
	} {
		if text := fault.Text(s.Sign(c.who, c.digest)); text != c.text {
			t.Errorf("%d signs %d: %q, not %q", c.who, c.digest, text, c.text)
		}
	}
}

// P4.1 (D2): what is there already is there once.
func TestSignedAgain(t *testing.T) {
	s := seals.New()
	for i, c := range []struct{ who, digest, many int }{
		{135, 5, 1}, {135, 5, 1}, {132, 5, 2}, {135, 5, 2}, {3, 5, 3}, {135, 0, 4}, {3, 5, 4}, {135, 0, 4}, {132, 5, 4},
	} {
		if err := s.Sign(c.who, c.digest); err != nil || s.Many() != c.many {
			t.Errorf("step %d: error %v, %d seals, not %d", i, err, s.Many(), c.many)
		}
	}
	has(t, s, []int{0, 5, 3, 132, 135}, pair{135, 5}, pair{132, 5}, pair{3, 5}, pair{135, 0})
}

// P4.1 (D2): just MaxSeals may be; the last one comes in, the next does not, and what is there already may be signed then.
func TestJustMaxSeals(t *testing.T) {
	l := principals()
	s := fill(t, api.MaxSeals-1)
	next := pair{l[(api.MaxSeals-1)%len(l)], (api.MaxSeals - 1) / len(l)}
	refused(t, s, next.who, -1, api.ErrArg)
	refused(t, s, 99, next.digest, api.ErrArg)
	sign(t, s, 0, 0, api.MaxSeals-1)
	sign(t, s, next.who, next.digest, api.MaxSeals)

	for range 2 {
		for _, p := range []pair{{0, api.MaxSeals}, {135, api.MaxSeals}, {221, math.MaxInt}, {l[len(l)-1], next.digest}} {
			refused(t, s, p.who, p.digest, api.ErrTooMany)
		}
		for _, who := range nobodies() {
			refused(t, s, who, 0, api.ErrArg)
		}
		refused(t, s, 0, -1, api.ErrArg)
		refused(t, s, 135, math.MinInt, api.ErrArg)
		sign(t, s, 0, 0, api.MaxSeals)
		sign(t, s, 135, 1, api.MaxSeals)
		sign(t, s, next.who, next.digest, api.MaxSeals)
	}
	if text := fault.Text(s.Sign(135, api.MaxSeals)); text != "seals 135: cohort: error 2" {
		t.Error(text)
	}
	for i := range api.MaxSeals {
		if who, d := l[i%len(l)], i/len(l); !s.Signed(who, d) {
			t.Fatalf("%d signed %d no more", who, d)
		}
	}
	places(t, s, 2, 0, 0, 1, 2, 3, 4, 5, 6, 7, 8, 9)
	places(t, s, 2, api.MaxSeals)
}

// P4.1 (D3), P4.2: a seal is of one principal and of one digest, not the other way round, and of no neighbour.
func TestASealIsOfOne(t *testing.T) {
	s := of(t, pair{3, 5})
	for _, p := range []pair{{5, 3}, {3, 3}, {5, 5}, {3, 4}, {3, 6}, {2, 5}, {4, 5}, {103, 5}, {-3, 5}, {3, -5}, {3, 5 + 1<<32}, {3 + 1<<32, 5}} {
		if s.Signed(p.who, p.digest) {
			t.Errorf("%d signed %d", p.who, p.digest)
		}
	}
	has(t, s, []int{3, 4, 5, 6}, pair{3, 5})
}

// P4.1 (D3): places rise, whoever signed first; a group's are its own alone, and clients have none.
func TestWho(t *testing.T) {
	s := of(t, pair{135, 5}, pair{132, 5}, pair{3, 5}, pair{141, 5}, pair{138, 5}, pair{116, 5}, pair{148, 5}, pair{133, 6})
	places(t, s, 2, 5, 0, 3, 6, 9)
	places(t, s, 1, 5, 0)
	places(t, s, 3, 5, 0)
	places(t, s, 0, 5)
	places(t, s, 2, 6, 1)
	places(t, s, 2, 7)

	all := seals.New()
	for i := range last + 1 {
		for _, g := range []int{0, 7} {
			if err := all.Sign(seals.Member(g, last-i), 0); err != nil {
				t.Error(g, i, err)
			}
		}
	}
	for _, g := range []int{0, 7} {
		places(t, all, g, 0, 0, 1, 2, 3, 4, 5, 6, 7, 8, 9)
	}
	places(t, all, 1, 0)
	places(t, all, 6, 0)
}

// P4.1 (D3): nobody is of a group that is not there, or signed a digest that is none.
func TestWhoOfNoGroup(t *testing.T) {
	s := fill(t, 3*len(principals()))
	for _, g := range append(far(), -1, -2, -6, -7, api.MaxGroups, api.MaxGroups+1, api.FirstMember) {
		for _, d := range []int{0, 1, 2, -1, math.MaxInt} {
			places(t, s, g, d)
		}
	}
	for g := range api.MaxGroups {
		for _, d := range []int{-1, -2, 3, math.MaxInt, math.MinInt} {
			places(t, s, g, d)
		}
	}
}

// P4.2: whatever comes, what was signed stays, and nothing else is.
func TestWhateverComes(t *testing.T) {
	l := append(principals(), nobodies()...)
	digests := []int{-2, -1, 0, 1, 2, 3}
	s := seals.New()
	var pairs []pair
	state := uint32(7)
	for range 600 {
		state = state*1664525 + 1013904223
		p := pair{l[int(state>>8)%len(l)], digests[int(state>>20)%len(digests)]}
		switch {
		case !slices.Contains(principals(), p.who) || p.digest < 0:
			refused(t, s, p.who, p.digest, api.ErrArg)
			continue
		case !slices.Contains(pairs, p):
			pairs = append(pairs, p)
		}
		sign(t, s, p.who, p.digest, len(pairs))
	}
	if len(pairs) < 100 || len(pairs) == len(principals())*4 {
		t.Errorf("%d seals tell too little", len(pairs))
	}
	has(t, s, digests, pairs...)
}

// P3: asking changes nothing.
func TestAskingChangesNothing(t *testing.T) {
	s := of(t, pair{135, 5}, pair{3, 5})
	for range 3 {
		for _, who := range append(principals(), nobodies()...) {
			s.Signed(who, 6)
			s.Signed(who, -1)
		}
		for g := -1; g <= api.MaxGroups; g++ {
			s.Who(g, 6)
			s.Who(g, -1)
		}
		has(t, s, []int{5, 6, -1}, pair{135, 5}, pair{3, 5})
	}
}

// P3: seals do not know of one another.
func TestSealsOfTheirOwn(t *testing.T) {
	one, other := of(t, pair{135, 5}), of(t, pair{132, 5}, pair{135, 6})
	has(t, one, []int{5, 6}, pair{135, 5})
	has(t, other, []int{5, 6}, pair{132, 5}, pair{135, 6})
}

// P3: places that were answered may change then, their spare room too, and are nobody else's.
func TestWhatWasAnsweredMayChange(t *testing.T) {
	var pairs []pair
	for i := range last + 1 {
		pairs = append(pairs, pair{seals.Member(2, i), i % 2}, pair{seals.Member(2, i), 2})
	}
	s := of(t, pairs...)
	for d, want := range [][]int{{0, 2, 4, 6, 8}, {1, 3, 5, 7, 9}, {0, 1, 2, 3, 4, 5, 6, 7, 8, 9}, nil} {
		first, second := s.Who(2, d), s.Who(2, d)
		spare := first[:cap(first)]
		for i := range spare {
			spare[i] = 77
		}
		_ = append(first, 88, 99)
		if !slices.Equal(second, want) {
			t.Errorf("a change of one answer is seen in another: %v", second)
		}
		places(t, s, 2, d, want...)
	}
	has(t, s, []int{0, 1, 2, 3}, pairs...)
}
