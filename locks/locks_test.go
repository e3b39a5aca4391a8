package locks_test

import (
	"errors"
	"fmt"
	"maps"
	"math"
	"slices"
	"strings"
	"testing"

	"cohort/api"
	"cohort/fault"
	"cohort/locks"
)

// most is how many keys may be had, and longKey how many bytes of one, as the chapter counts them.
const (
	most    = 128
	longKey = 16
)

// odd is the i-th of keys that leave some between them: 0001, 0003, 0005 and so on; even is the one behind it.
func odd(i int) string { return fmt.Sprintf("%04d", 2*i+1) }

func even(i int) string { return fmt.Sprintf("%04d", 2*i+2) }

// odds are those from one on, up to another one.
func odds(from, to int) []string {
	var keys []string
	for i := from; i < to; i++ {
		keys = append(keys, odd(i))
	}
	return keys
}

// had are keys with who has them.
type had map[string]int

// of are somebody's, rising.
func (h had) of(who int) []string {
	var keys []string
	for key, holder := range h {
		if holder == who {
			keys = append(keys, key)
		}
	}
	slices.Sort(keys)
	return keys
}

// with is what is had when somebody has more.
func (h had) with(who int, keys ...string) had {
	all := had{}
	maps.Copy(all, h)
	for _, key := range keys {
		all[key] = who
	}
	return all
}

// without is what is had when somebody has none.
func (h had) without(who int) had {
	all := had{}
	for key, holder := range h {
		if holder != who {
			all[key] = holder
		}
	}
	return all
}

// has holds that just these keys are had, by all ways to ask for them.
func has(t *testing.T, k *locks.Locks, want had) {
	t.Helper()
	if k.Many() != len(want) {
		t.Errorf("%d keys are had, not %d", k.Many(), len(want))
	}
	if k.Any("", "") != (len(want) > 0) {
		t.Errorf("any of %d is %v", len(want), k.Any("", ""))
	}
	asked := map[int]bool{-1: true, 0: true, 1: true, math.MinInt: true, math.MaxInt: true}
	for key, who := range want {
		asked[who] = true
		if got, is := k.Holder(key); !is || got != who {
			t.Errorf("Holder(%q) is %d, %v, not %d", key, got, is, who)
		}
		if !k.Any(key, key+"\x00") {
			t.Errorf("nobody has %q", key)
		}
	}
	for who := range asked {
		if got := k.Keys(who); !slices.Equal(got, want.of(who)) {
			t.Errorf("Keys(%d) are %q, not %q", who, got, want.of(who))
		}
	}
}

// lacks holds that nobody has some keys.
func lacks(t *testing.T, k *locks.Locks, keys ...string) {
	t.Helper()
	for _, key := range keys {
		if who, is := k.Holder(key); is || who != -1 {
			t.Errorf("Holder(%q) is %d, %v", key, who, is)
		}
		if k.Any(key, key+"\x00") {
			t.Errorf("somebody has %q", key)
		}
	}
}

// lock holds that somebody is given keys.
func lock(t *testing.T, k *locks.Locks, who int, keys ...string) {
	t.Helper()
	if err := k.Lock(who, keys); err != nil {
		t.Errorf("Lock(%d, %q): %v", who, keys, err)
	}
}

// having are locks of which there is what is wanted, locked key by key.
func having(t *testing.T, want had) *locks.Locks {
	t.Helper()
	k := locks.New()
	for key, who := range want {
		lock(t, k, who, key)
	}
	has(t, k, want)
	return k
}

// refused holds that keys are not given, by an error's number that is wrapped once, by lock and where; and that all is had that was.
func refused(t *testing.T, k *locks.Locks, all had, e api.Errno, at int, who int, keys ...string) {
	t.Helper()
	err := k.Lock(who, keys)
	if fault.Code(err) != e || !errors.Is(err, e) || !slices.Equal(fault.Trail(err), []api.Step{{Where: "lock", At: at}}) {
		t.Errorf("Lock(%d, %q): error %q, not %d at %d", who, keys, fault.Text(err), e, at)
	}
	if text := fmt.Sprintf("lock %d: cohort: error %d", at, int(e)); fault.Text(err) != text {
		t.Errorf("the error is told as %q, not %q", fault.Text(err), text)
	}
	has(t, k, all)
	for _, key := range keys {
		if _, is := all[key]; !is {
			lacks(t, k, key)
		}
	}
}

// tooLong are keys that nobody may have.
func tooLong() []string {
	return []string{strings.Repeat("k", longKey+1), strings.Repeat("é", longKey/2+1), strings.Repeat("\x00", longKey+1), strings.Repeat("k", 1<<16)}
}

// P8.1 (H1): of a new one nobody has any key, and it is nobody else's.
func TestNewHasNone(t *testing.T) {
	k := locks.New()
	has(t, k, had{})
	lacks(t, k, "", "a", "\xff", strings.Repeat("k", 100))
	for _, who := range []int{math.MinInt, -1, 0, 1, 128, math.MaxInt} {
		if keys := k.Keys(who); len(keys) != 0 {
			t.Errorf("%d has %q", who, keys)
		}
		k.Unlock(who)
	}
	for r := range ranges() {
		if k.Any(r[0], r[1]) {
			t.Errorf("somebody has a key from %q to %q", r[0], r[1])
		}
	}
	lock(t, k, 1, "a")
	has(t, k, had{"a": 1})
	has(t, locks.New(), had{})
}

// P8.1 (H2): the chapter's example.
func TestExample(t *testing.T) {
	k := locks.New()
	if err := k.Lock(1, []string{"a", "b"}); err != nil {
		t.Error(err)
	}
	err := k.Lock(2, []string{"c", "b"})
	if fault.Code(err) != api.ErrHeld || fault.Text(err) != "lock 1: cohort: error 81" {
		t.Errorf("error %q", fault.Text(err))
	}
	has(t, k, had{"a": 1, "b": 1})
	lacks(t, k, "c")
}

// P8.1 (H1, H2): no keys may be asked for, by whoever may ask for some, also when there is no room; nobody has more then.
func TestLockNothing(t *testing.T) {
	full := had{}.with(3, odds(0, most)...)
	for _, all := range []had{{}, {"a": 1}, {"a": 1, "b": 2}, full} {
		k := having(t, all)
		for _, who := range []int{0, 1, 2, 3, math.MaxInt} {
			for _, none := range [][]string{nil, {}, odds(0, 3)[:0]} {
				if err := k.Lock(who, none); err != nil {
					t.Errorf("Lock(%d) of nothing: %v", who, err)
				}
				has(t, k, all)
			}
		}
		refused(t, k, all, api.ErrArg, -1, -1)
	}
}

// P8.1 (H1, H2): whoever is 0 or above may have keys, however great the number is.
func TestLockOfAnybody(t *testing.T) {
	k, all := locks.New(), had{}
	for i, who := range []int{0, 1, 15, 100, 227, 1 << 31, 1<<31 - 1, 1 << 32, 1 << 40, math.MaxInt - 1, math.MaxInt} {
		lock(t, k, who, odd(i), even(i))
		all = all.with(who, odd(i), even(i))
		has(t, k, all)
	}
	// A number of which only some bits are somebody's is nobody's.
	for _, who := range []int{2, 1<<32 + 1, 1<<32 + 15, 1<<40 + 1, math.MaxInt - 2} {
		if keys := k.Keys(who); len(keys) != 0 {
			t.Errorf("%d has %q", who, keys)
		}
		k.Unlock(who)
	}
	has(t, k, all)
}

// P8.1 (H2): nobody below 0 may have any, whatever else is wrong, be there room or not.
func TestLockOfNobody(t *testing.T) {
	full := had{}.with(3, odds(0, most)...)
	for _, all := range []had{{}, {"a": 1}, full} {
		k := having(t, all)
		for _, who := range []int{-1, -2, -128, -1 << 32, math.MinInt + 1, math.MinInt} {
			refused(t, k, all, api.ErrArg, -1, who)
			refused(t, k, all, api.ErrArg, -1, who, "x")
			refused(t, k, all, api.ErrArg, -1, who, "a", odd(0))
			refused(t, k, all, api.ErrArg, -1, who, "x", tooLong()[0])
			refused(t, k, all, api.ErrArg, -1, who, odds(200, 200+most+1)...)
		}
	}
}

// P8.1 (H1, H2): any bytes are a key, the empty key too, and as many of them as a key may have; one more is too many.
func TestLockKeysOfAllLengths(t *testing.T) {
	keys := []string{"", "\x00", "\x00\x00", "a", "ab", "B", "\x7f", "\x80", "\xff", "\xff\xff", "é", strings.Repeat("k", longKey-1), strings.Repeat("k", longKey), strings.Repeat("é", longKey/2), strings.Repeat("\xff", longKey), strings.Repeat("\x00", longKey)}
	all := had{}
	for i, key := range keys {
		k := locks.New()
		lock(t, k, 7, key)
		has(t, k, had{key: 7})
		all[key] = i % 3
	}
	k := having(t, all)
	lacks(t, k, "b", "a\x00", "\x01", "A", "\x00\x00\x00", "abc", strings.Repeat("k", longKey-2), strings.Repeat("k", longKey+1))
	for _, long := range tooLong() {
		for _, who := range []int{0, 1, 5} {
			refused(t, k, all, api.ErrArg, 0, who, long)
			refused(t, k, all, api.ErrArg, 1, who, "new", long)
			refused(t, k, all, api.ErrArg, 3, who, "new", "new", "other", long, "fourth")
		}
		lacks(t, k, long)
	}
}

// P8.1 (H2), P8.2: a key that is named twice is one key.
func TestKeysNamedTwice(t *testing.T) {
	k := locks.New()
	lock(t, k, 1, "b", "a", "b", "b", "a")
	has(t, k, had{"a": 1, "b": 1})
	lock(t, k, 1, "c", "b", "c")
	has(t, k, had{"a": 1, "b": 1, "c": 1})
	lock(t, k, 2, "", "")
	has(t, k, had{"a": 1, "b": 1, "c": 1, "": 2})
	refused(t, k, had{"a": 1, "b": 1, "c": 1, "": 2}, api.ErrHeld, 2, 2, "x", "x", "c", "c")

	// So many names of one key take the room of one.
	all := had{}.with(4, odds(0, most-1)...)
	k = having(t, all)
	lock(t, k, 5, slices.Repeat([]string{"x"}, 3*most)...)
	has(t, k, all.with(5, "x"))
	lock(t, k, 4, slices.Repeat(odds(0, most-1), 3)...)
	has(t, k, all.with(5, "x"))
	k = locks.New()
	lock(t, k, 4, slices.Repeat(odds(0, most), 2)...)
	has(t, k, had{}.with(4, odds(0, most)...))
}

// P8.1 (H2): what somebody has already may be asked for again, alone or with more; nothing is lost thereby.
func TestLockAgain(t *testing.T) {
	k := locks.New()
	lock(t, k, 1, "a", "b")
	lock(t, k, 2, "x")
	lock(t, k, 1, "a", "b")
	lock(t, k, 1, "b")
	has(t, k, had{"a": 1, "b": 1, "x": 2})
	lock(t, k, 1, "c", "a")
	lock(t, k, 1, "d")
	has(t, k, had{"a": 1, "b": 1, "c": 1, "d": 1, "x": 2})
}

// P8.1 (H2), P8.2: what somebody else has may not be had, at whichever place it is named: the first of them is told, and nothing is had that is named beside it.
func TestLockOfWhatIsHeld(t *testing.T) {
	all := had{"": 0, "a": 1, "b": 1, "c": 2, "k": math.MaxInt}
	k := having(t, all)
	for _, c := range []struct {
		who  int
		at   int
		keys []string
	}{
		{2, 0, []string{"a"}},
		{0, 0, []string{"a"}},
		{1, 0, []string{""}},
		{0, 0, []string{"k"}},
		{math.MaxInt, 0, []string{"a"}},
		{1, 0, []string{"c", "a", "new"}},
		{1, 2, []string{"a", "b", "c"}},
		{1, 1, []string{"a", "c", "b"}},
		{2, 1, []string{"c", "a", "b"}},
		{3, 3, []string{"new", "newer", "newest", "c"}},
		{3, 1, []string{"new", "b", "a", "c"}},
		{2, 1, []string{"new", "b", "c"}},
		{1, 2, []string{"b", "new", "c", "c"}},
		{1, 4, []string{"b", "b", "new", "new", "k"}},
		{0, 130, append(slices.Repeat([]string{"new", ""}, 65), "a")},
	} {
		refused(t, k, all, api.ErrHeld, c.at, c.who, c.keys...)
	}
}

// P8.1 (H2): of several errors that are told which comes first in the chapter's words: who, then the first key that may not be, then the room.
func TestWhichErrorIsTold(t *testing.T) {
	long := tooLong()[0]
	all := had{}.with(1, odds(0, most)...).with(2, odd(5), odd(6))
	k := having(t, all)
	refused(t, k, all, api.ErrArg, -1, -1, long, odd(5), "new")
	refused(t, k, all, api.ErrArg, 0, 1, long, odd(5), "new")
	refused(t, k, all, api.ErrHeld, 0, 1, odd(5), long, "new")
	refused(t, k, all, api.ErrHeld, 1, 1, "new", odd(5), long)
	refused(t, k, all, api.ErrArg, 1, 1, "new", long, odd(5))
	refused(t, k, all, api.ErrArg, 2, 1, "new", "newer", long)
	refused(t, k, all, api.ErrHeld, 2, 1, odd(0), "new", odd(6))
	refused(t, k, all, api.ErrFull, most, 1, odd(0), "new")
	refused(t, k, all, api.ErrFull, most, 3, "new")
	// Keys that may not be are told however many more than there is room for are named ahead of them.
	refused(t, k, all, api.ErrHeld, 300, 1, append(odds(500, 800), odd(5))...)
	refused(t, k, all, api.ErrArg, 300, 1, append(odds(500, 800), long, odd(5))...)
	refused(t, locks.New(), had{}, api.ErrArg, 300, 1, append(odds(500, 800), long)...)
}

// P8.1 (H2): as many keys may be had as there is room for, at once or one by one, also by several; one more may not.
func TestRoom(t *testing.T) {
	for _, many := range []int{0, 1, 2, 63, most - 2, most - 1, most} {
		all := had{}.with(1, odds(0, many)...)
		left := most - many
		for _, who := range []int{0, 1, 2} {
			k := having(t, all)
			refused(t, k, all, api.ErrFull, many, who, odds(200, 200+left+1)...)
			refused(t, k, all, api.ErrFull, many, who, odds(200, 200+left+2)...)
			refused(t, k, all, api.ErrFull, many, who, odds(200, 200+3*most)...)
			refused(t, k, all, api.ErrFull, many, who, append([]string{""}, odds(200, 200+left)...)...)
			lock(t, k, who, odds(200, 200+left)...)
			now := all.with(who, odds(200, 200+left)...)
			has(t, k, now)
			refused(t, k, now, api.ErrFull, most, who, "new")
			refused(t, k, now, api.ErrFull, most, 9, "")
		}
	}
	k, all := locks.New(), had{}
	for i := range most {
		lock(t, k, i, odd(i))
		all[odd(i)] = i
	}
	refused(t, k, all, api.ErrFull, most, most, even(0))
	refused(t, k, all, api.ErrFull, most, 0, odd(0), even(0))
	refused(t, k, all, api.ErrHeld, 0, 1, odd(0))
}

// P8.1 (H2): what somebody has already takes no more room, also where there is none.
func TestLockAgainWithoutRoom(t *testing.T) {
	all := had{}.with(1, odds(0, most-2)...).with(2, odd(200))
	k := having(t, all)
	refused(t, k, all, api.ErrFull, most-1, 1, append(odds(0, 5), "new", "newer")...)
	lock(t, k, 1, append(odds(0, most-2), "new")...)
	all["new"] = 1
	has(t, k, all)
	lock(t, k, 1, odds(0, most-2)...)
	lock(t, k, 1, "new")
	lock(t, k, 2, odd(200))
	lock(t, k, 2, odd(200), odd(200))
	refused(t, k, all, api.ErrFull, most, 1, append(odds(0, most-2), "newer")...)
	has(t, k, all)
}

// P8.1 (H2), P8.3: an Unlock takes all from one, and nothing from anybody else; again, or of who has none, it takes nothing.
func TestUnlock(t *testing.T) {
	all := had{"": 0, "a": 1, "b": 2, "c": 1, "d": 0, "e": 3, "f": 1, "k": math.MaxInt}
	for _, who := range []int{0, 1, 2, 3, 4, 100, math.MaxInt, math.MaxInt - 1, 1 << 32, 1<<32 + 1, -1, -2, math.MinInt} {
		k := having(t, all)
		for range 2 {
			k.Unlock(who)
			has(t, k, all.without(who))
			lacks(t, k, all.of(who)...)
		}
	}
	k := having(t, had{}.with(6, odds(0, most)...))
	k.Unlock(5)
	has(t, k, had{}.with(6, odds(0, most)...))
	k.Unlock(6)
	has(t, k, had{})
	lacks(t, k, odds(0, most)...)
}

// P8.1 (H2), P8.2: what was unlocked may be had by anybody, and has left its room.
func TestLockWhatWasUnlocked(t *testing.T) {
	all := had{}.with(1, odds(0, 100)...).with(2, odds(100, most)...)
	k := having(t, all)
	refused(t, k, all, api.ErrHeld, 0, 2, odd(50))
	k.Unlock(1)
	all = all.without(1)
	refused(t, k, all, api.ErrFull, most-100, 3, append(odds(300, 400), "x")...)
	lock(t, k, 3, append(odds(0, 99), "x")...)
	all = all.with(3, append(odds(0, 99), "x")...)
	has(t, k, all)
	lacks(t, k, odd(99))
	refused(t, k, all, api.ErrFull, most, 1, odd(99))
	refused(t, k, all, api.ErrHeld, 0, 1, odd(98))
	k.Unlock(3)
	lock(t, k, 1, odds(0, 100)...)
	has(t, k, had{}.with(1, odds(0, 100)...).with(2, odds(100, most)...))
}

// P8.1 (H1): somebody's keys are told rising, as bytes, in whichever order they were asked for, and however often it is asked.
func TestKeysRise(t *testing.T) {
	want := []string{"", "\x00", "B", "a", "a\x00", "aa", "ab", "b", "\x7f", "\x80", "é", "\xff", "\xff\x00"}
	slices.Sort(want)
	turned := slices.Clone(want)
	slices.Reverse(turned)
	for _, keys := range [][]string{want, turned, slices.Concat(want[6:], turned[7:])} {
		k := locks.New()
		lock(t, k, 2, "other", "\xff\xff")
		lock(t, k, 1, keys...)
		for range 20 {
			if got := k.Keys(1); !slices.Equal(got, want) {
				t.Errorf("Keys are %q, not %q", got, want)
			}
		}
	}
	k := locks.New()
	for i := range most {
		lock(t, k, 1, odd((i*37)%most))
	}
	if got := k.Keys(1); !slices.Equal(got, odds(0, most)) {
		t.Errorf("Keys are %q", got)
	}
}

// ranges are bounds, and whether one of the keys b, d, f and h is from the first on and below the second.
func ranges() map[[2]string]bool {
	return map[[2]string]bool{
		{"", ""}:   true,
		{"", "a"}:  false,
		{"", "b"}:  false,
		{"", "c"}:  true,
		{"", "h"}:  true,
		{"", "z"}:  true,
		{"a", ""}:  true,
		{"b", ""}:  true,
		{"g", ""}:  true,
		{"h", ""}:  true,
		{"i", ""}:  false,
		{"a", "b"}: false,
		{"a", "c"}: true,
		{"b", "c"}: true,
		{"b", "d"}: true,
		{"c", "d"}: false,
		{"c", "e"}: true,
		{"e", "f"}: false,
		{"e", "g"}: true,
		{"g", "h"}: false,
		{"h", "i"}: true,
		{"i", "j"}: false,
		{"b", "b"}: false,
		{"d", "d"}: false,
		{"h", "h"}: false,
		{"c", "c"}: false,
		{"a", "a"}: false,
		{"i", "i"}: false,
		{"d", "b"}: false,
		{"h", "b"}: false,
		{"i", "a"}: false,
		{"g", "c"}: false,
		{"c", "b"}: false,

		{"b\x00", "d"}:     false,
		{"b\x00", "d\x00"}: true,
		{"a\xff", "b\x00"}: true,
		{"h\x00", ""}:      false,
		{"\x00", "\xff"}:   true,
		{"B", "D"}:         false,
		{"\xff", ""}:       false,
		{strings.Repeat("b", 99), strings.Repeat("c", 99)}: false,
		{strings.Repeat("c", 99), strings.Repeat("d", 99)}: true,
	}
}

// P8.1 (H1): Any asks for keys from its from on and below its to, all above of an empty one, whoever has them; asking changes nothing.
func TestAny(t *testing.T) {
	for _, all := range []had{
		{"b": 1, "d": 1, "f": 1, "h": 1},
		{"b": 0, "d": 1, "f": math.MaxInt, "h": 2},
	} {
		k := having(t, all)
		for r, want := range ranges() {
			for range 3 {
				if got := k.Any(r[0], r[1]); got != want {
					t.Errorf("from %q to %q it is %v", r[0], r[1], got)
				}
			}
		}
		has(t, k, all)
	}
}

// P8.1 (H1): an empty key is in what begins at an empty from, and in nothing else.
func TestAnyOfAnEmptyKey(t *testing.T) {
	k := having(t, had{"": 0})
	for r, want := range map[[2]string]bool{{"", ""}: true, {"", "\x00"}: true, {"", "a"}: true, {"\x00", ""}: false, {"\x00", "a"}: false, {"a", ""}: false, {"a", "a"}: false} {
		if got := k.Any(r[0], r[1]); got != want {
			t.Errorf("from %q to %q it is %v", r[0], r[1], got)
		}
	}
}

// P8.1 (H1): Any tells what is had now.
func TestAnyBehindUnlock(t *testing.T) {
	k := having(t, had{"b": 1, "c": 2, "d": 1})
	k.Unlock(2)
	if k.Any("c", "d") || !k.Any("b", "c") || !k.Any("d", "") {
		t.Error("behind an Unlock of the one between")
	}
	k.Unlock(1)
	if k.Any("", "") || k.Any("b", "c") || k.Any("d", "") {
		t.Error("behind an Unlock of all")
	}
	lock(t, k, 3, "c")
	if !k.Any("c", "d") || k.Any("b", "c") || k.Any("d", "") {
		t.Error("behind a Lock")
	}
}

// P8.2: whichever key of a row is somebody else's, none of the row is had; once it is free, all are.
func TestAllOrNone(t *testing.T) {
	row := odds(0, 12)
	for i := range row {
		k := locks.New()
		lock(t, k, 1, row[i])
		refused(t, k, had{row[i]: 1}, api.ErrHeld, i, 2, row...)
		bad := slices.Insert(slices.Clone(row), i, tooLong()[i%len(tooLong())])
		k.Unlock(1)
		refused(t, k, had{}, api.ErrArg, i, 2, bad...)
		lock(t, k, 2, row...)
		has(t, k, had{}.with(2, row...))
		refused(t, k, had{}.with(2, row...), api.ErrHeld, 0, 1, row[i])
	}
}

// P8.3: whatever one does, all others have what they had.
func TestOthersKeep(t *testing.T) {
	all := had{"a": 0, "c": 0, "e": 2, "g": 3, "i": 3}
	for _, does := range []func(k *locks.Locks){
		func(k *locks.Locks) { lock(t, k, 1, "b", "d") },
		func(k *locks.Locks) { _ = k.Lock(1, []string{"b", "a"}) },
		func(k *locks.Locks) { _ = k.Lock(1, []string{"i"}) },
		func(k *locks.Locks) { _ = k.Lock(1, odds(0, most+1)) },
		func(k *locks.Locks) { _ = k.Lock(-1, []string{"a"}) },
		func(k *locks.Locks) { _ = k.Lock(1, append([]string{"e"}, tooLong()...)) },
		func(k *locks.Locks) { k.Unlock(1) },
		func(k *locks.Locks) { lock(t, k, 1, "b", "d"); k.Unlock(1) },
		func(k *locks.Locks) { lock(t, k, 1, odds(0, most-5)...); k.Unlock(1) },
	} {
		k := having(t, all)
		does(k)
		k.Unlock(1)
		has(t, k, all)
		for key := range all {
			refused(t, k, all, api.ErrHeld, 0, 1, key)
		}
	}
}

// dice are numbers that follow from where they begin.
type dice uint32

func (d *dice) roll(below int) int {
	*d = *d*1664525 + 1013904223
	return int(*d>>8) % below
}

// row is some keys of so many, now and then one that is too long.
func (d *dice) row(among int) []string {
	var keys []string
	for range d.roll(8) {
		keys = append(keys, fmt.Sprintf("%03d", d.roll(among)))
	}
	if d.roll(10) == 0 {
		keys = slices.Insert(keys, d.roll(len(keys)+1), tooLong()[d.roll(4)])
	}
	return keys
}

// told is what a Lock answers, by the chapter's words: the error, and where.
func (h had) told(who int, keys []string) (api.Errno, int) {
	if who < 0 {
		return api.ErrArg, -1
	}
	for i, key := range keys {
		if len(key) > longKey {
			return api.ErrArg, i
		}
		if holder, is := h[key]; is && holder != who {
			return api.ErrHeld, i
		}
	}
	if len(h.with(who, keys...)) > most {
		return api.ErrFull, len(h)
	}
	return api.OK, 0
}

// P8.1, P8.2, P8.3: whatever comes, in whichever order, what is had is what a plain map of keys has.
func TestWhateverComes(t *testing.T) {
	for _, c := range []struct{ among, who int }{{6, 3}, {60, 9}, {300, 4}, {900, 40}} {
		d, k, all := dice(c.among), locks.New(), had{}
		met := map[api.Errno]int{}
		for step := range 1500 {
			who := d.roll(c.who+1) - 1
			if d.roll(8+c.among/4) == 0 {
				k.Unlock(who)
				all = all.without(who)
				has(t, k, all)
				continue
			}
			keys := d.row(c.among)
			want, at := all.told(who, keys)
			met[want]++
			err := k.Lock(who, keys)
			if fault.Code(err) != want {
				t.Fatalf("step %d: Lock(%d, %q): error %v, not %d", step, who, keys, err, want)
			}
			if want != api.OK && fault.Text(err) != fmt.Sprintf("lock %d: cohort: error %d", at, int(want)) {
				t.Fatalf("step %d: Lock(%d, %q): error %q, not at %d", step, who, keys, fault.Text(err), at)
			}
			if want == api.OK {
				all = all.with(who, keys...)
			}
			has(t, k, all)
			from, to := fmt.Sprintf("%03d", d.roll(c.among)), fmt.Sprintf("%03d", d.roll(c.among))
			some := false
			for key := range all {
				some = some || key >= from && key < to
			}
			if k.Any(from, to) != some {
				t.Fatalf("step %d: from %q to %q it is %v", step, from, to, !some)
			}
		}
		if met[api.OK] < 50 || met[api.ErrArg] == 0 || met[api.ErrHeld] == 0 || c.among > 2*most && met[api.ErrFull] == 0 {
			t.Errorf("among %d: %v tells too little", c.among, met)
		}
	}
}

// P3: locks are their own: what is had of one is not had of another.
func TestLocksOfTheirOwn(t *testing.T) {
	one, other := locks.New(), locks.New()
	lock(t, one, 1, "a", "b")
	lock(t, other, 2, "b", "c")
	one.Unlock(2)
	other.Unlock(1)
	has(t, one, had{"a": 1, "b": 1})
	has(t, other, had{"b": 2, "c": 2})
}

// P3: a list that was handed in is not changed, nor its spare room, and not kept: whoever handed it in may change it then.
func TestListsThatAreHandedIn(t *testing.T) {
	whole := []string{"d", "b", "d", "a", "c", "spare", "room"}
	given := slices.Clone(whole)
	k := locks.New()
	lock(t, k, 1, "a")
	lock(t, k, 1, given[:5]...)
	if err := k.Lock(2, given[:5]); fault.Code(err) != api.ErrHeld {
		t.Error(err)
	}
	if err := k.Lock(-1, given[:5]); fault.Code(err) != api.ErrArg {
		t.Error(err)
	}
	if !slices.Equal(given, whole) {
		t.Errorf("a list that was handed in is changed: %q", given)
	}
	for i := range given {
		given[i] = "changed"
	}
	has(t, k, had{"a": 1, "b": 1, "c": 1, "d": 1})
	lacks(t, k, "changed", "spare", "room")
}

// P3: a list that came out may change then, its spare room too; what is had, and other answers, stay as they are, and so does it, whatever is locked then.
func TestListsThatComeOut(t *testing.T) {
	for _, many := range []int{1, 2, 3, 5, 9, most} {
		all := had{}.with(1, odds(0, many)...)
		k := having(t, all)
		first, second := k.Keys(1), k.Keys(1)
		for i := range first[:cap(first)] {
			first[:cap(first)][i] = "changed"
		}
		_ = append(first, "more")
		if !slices.Equal(second, odds(0, many)) {
			t.Errorf("a change of one answer is seen in another: %q", second)
		}
		has(t, k, all)
		k.Unlock(1)
		lock(t, k, 1, "x")
		if !slices.Equal(second, odds(0, many)) {
			t.Errorf("what is locked is seen in an answer: %q", second)
		}
	}
}
