package store_test

import (
	"errors"
	"fmt"
	"math"
	"slices"
	"strings"
	"testing"

	"cohort/api"
	"cohort/fault"
	"cohort/store"
)

// most is how many entries a store may have, and the bounds of keys, values and versions, as the chapter counts them.
const (
	most       = 128
	longKey    = 16
	longValue  = 64
	endVersion = int64(1 << 62)
)

// named is an entry of a key; its value tells the key, and its version.
func named(key string, version int64) api.Entry {
	return api.Entry{Key: key, Value: fmt.Sprintf("%s:%d", key, version), Version: version}
}

// of are entries of just these keys, of versions from 1 on.
func of(keys ...string) []api.Entry {
	var l []api.Entry
	for i, k := range keys {
		l = append(l, named(k, int64(i+1)))
	}
	return l
}

// odd is the i-th of keys that leave some between them: 0001, 0003, 0005 and so on; even is the one behind it.
func odd(i int) string { return fmt.Sprintf("%04d", 2*i+1) }

func even(i int) string { return fmt.Sprintf("%04d", 2*i+2) }

// entries are so many, of odd keys.
func entries(many int) []api.Entry {
	l := make([]api.Entry, many)
	for i := range l {
		l[i] = named(odd(i), int64(i%5+1))
	}
	return l
}

// having is a store of entries.
func having(t *testing.T, l ...api.Entry) *store.Store {
	t.Helper()
	s := store.Of(l)
	if s == nil {
		t.Fatalf("no store of %v", l)
	}
	return s
}

// has holds that a store has just these entries, by all ways to ask for them.
func has(t *testing.T, s *store.Store, want ...api.Entry) {
	t.Helper()
	if l := s.Range("", ""); !slices.Equal(l, want) {
		t.Errorf("the store has %v, not %v", l, want)
	}
	for _, e := range want {
		if got, there := s.Get(e.Key); !there || got != e {
			t.Errorf("Get(%q) is %v, %v, not %v", e.Key, got, there, e)
		}
	}
	if left := most - len(want); !s.Room(left) || s.Room(left+1) {
		t.Errorf("with %d entries there is room for %d: %v, for one more: %v", len(want), left, s.Room(left), s.Room(left+1))
	}
}

// lacks holds that there are no entries of some keys.
func lacks(t *testing.T, s *store.Store, keys ...string) {
	t.Helper()
	for _, k := range keys {
		if e, there := s.Get(k); there || e != (api.Entry{}) {
			t.Errorf("Get(%q) is %v, %v", k, e, there)
		}
	}
}

// put holds that a key is given a value.
func put(t *testing.T, s *store.Store, key, value string) {
	t.Helper()
	if err := s.Put(key, value); err != nil {
		t.Errorf("Put(%q, %q): %v", key, value, err)
	}
}

// lay holds that entries are laid.
func lay(t *testing.T, s *store.Store, l ...api.Entry) {
	t.Helper()
	if err := s.Lay(l); err != nil {
		t.Errorf("Lay(%v): %v", l, err)
	}
}

// refused holds that a call answers an error's number, wrapped once, by store and how many entries there are, and that nothing came of it.
func refused(t *testing.T, s *store.Store, want api.Errno, call func() error) {
	t.Helper()
	had := s.Range("", "")
	err := call()
	if fault.Code(err) != want || !errors.Is(err, want) || !slices.Equal(fault.Trail(err), []api.Step{{Where: "store", At: len(had)}}) {
		t.Errorf("error %q, not %d", fault.Text(err), want)
	}
	has(t, s, had...)
}

// unlaid holds that entries are not laid.
func unlaid(t *testing.T, s *store.Store, want api.Errno, l ...api.Entry) {
	t.Helper()
	refused(t, s, want, func() error { return s.Lay(l) })
}

// unput holds that a key is not given a value.
func unput(t *testing.T, s *store.Store, want api.Errno, key, value string) {
	t.Helper()
	refused(t, s, want, func() error { return s.Put(key, value) })
}

// wrongLists are entries that no store may have, each by one thing that is wrong.
func wrongLists() map[string][]api.Entry {
	return map[string][]api.Entry{
		"too many":                    entries(most + 1),
		"far too many":                entries(2 * most),
		"keys alike":                  of("a", "a"),
		"keys alike at the end":       of("a", "b", "c", "c"),
		"empty keys alike":            of("", ""),
		"keys that fall":              of("b", "a"),
		"keys that fall at the end":   of("a", "b", "d", "c"),
		"an empty key behind":         of("a", ""),
		"a longer key ahead":          of("ab", "a"),
		"keys that fall, as bytes":    of("\xff", "\x7f"),
		"capitals behind":             of("a", "B"),
		"a key too long":              of(strings.Repeat("k", longKey+1)),
		"a key too long at the end":   of("a", strings.Repeat("k", longKey+1)),
		"a key of too many bytes":     of(strings.Repeat("é", longKey/2+1)),
		"a key far too long":          of(strings.Repeat("k", 1<<16)),
		"a value too long":            {{Key: "a", Value: strings.Repeat("v", longValue+1), Version: 1}},
		"a value too long at the end": {named("a", 1), {Key: "b", Value: strings.Repeat("v", longValue+1), Version: 1}},
		"a value of too many bytes":   {{Key: "a", Value: strings.Repeat("é", longValue/2+1), Version: 1}},
		"a value far too long":        {{Key: "a", Value: strings.Repeat("v", 1<<16), Version: 1}},
		"a version of 0":              {named("a", 0)},
		"a version of 0 at the end":   {named("a", 1), named("b", 0)},
		"a version below 0":           {named("a", -1)},
		"a version far below 0":       {named("a", math.MinInt64)},
		"nothing but a zero entry":    {{}},
	}
}

// P7.1 (G1): a new one has nothing, and is nobody else's.
func TestNewIsEmpty(t *testing.T) {
	s := store.New()
	has(t, s)
	lacks(t, s, "", "a", "\xff")
	put(t, s, "a", "x")
	has(t, s, api.Entry{Key: "a", Value: "x", Version: 1})
	has(t, store.New())
}

// P7.1 (G1): of no entries there is a store too, that has none.
func TestOfNothing(t *testing.T) {
	has(t, having(t))
	for _, l := range [][]api.Entry{nil, {}, entries(3)[:0]} {
		s := store.Of(l)
		if s == nil {
			t.Fatal("no store of no entries")
		}
		has(t, s)
		put(t, s, "a", "x")
		has(t, s, api.Entry{Key: "a", Value: "x", Version: 1})
	}
}

// P7.1 (G1): of right entries there is one that has just these; its edges are as many, as long and as great as may be.
func TestOf(t *testing.T) {
	key, value := strings.Repeat("k", longKey), strings.Repeat("v", longValue)
	for _, l := range [][]api.Entry{
		of("a"), of(""), of("", "a"), of("a", "ab", "b"), of("B", "a"), of("\x00", "\x00\x00", "\x7f", "\x80", "\xff", "\xff\xff"),
		entries(2), entries(most - 1), entries(most),
		of(key), of(strings.Repeat("é", longKey/2)), of(strings.Repeat("\xff", longKey)),
		{{Key: "a", Value: value, Version: 1}}, {{Key: "a", Value: strings.Repeat("é", longValue/2), Version: 1}}, {{Key: "a", Version: 1}}, {{Version: 1}},
		{named("a", 1)}, {named("a", endVersion-1)}, {named("a", endVersion)}, {named("a", math.MaxInt64)},
		{{Key: "", Value: "", Version: 1}, {Key: key, Value: value, Version: endVersion}},
	} {
		has(t, having(t, l...), l...)
	}
}

// P7.1 (G1): of wrong ones there is none.
func TestOfWrongEntries(t *testing.T) {
	for what, l := range wrongLists() {
		if store.Of(l) != nil {
			t.Errorf("%s: there is a store", what)
		}
	}
}

// P7.1 (G2): just the keys that are there have an entry; neighbours have a zero one.
func TestGet(t *testing.T) {
	for _, many := range []int{0, 1, 2, 3, 4, 7, 8, 9, most - 1, most} {
		s := having(t, entries(many)...)
		has(t, s, entries(many)...)
		lacks(t, s, "", "0000", "00", "\xff", strings.Repeat("9", 100))
		for i := range many {
			lacks(t, s, even(i), odd(i)+"\x00", odd(i)[:3])
		}
	}
}

// P7.1 (G2), P7.2: the chapter's example.
func TestExample(t *testing.T) {
	s := store.New()
	put(t, s, "a", "x")
	put(t, s, "a", "y")
	if e, there := s.Get("a"); !there || e != (api.Entry{Key: "a", Value: "y", Version: 2}) {
		t.Errorf("Get is %v, %v", e, there)
	}
}

// P7.1 (G2): keys come in wherever they belong, in whichever order.
func TestPutNewKeys(t *testing.T) {
	for _, keys := range [][]string{
		{"a", "b", "c"}, {"c", "b", "a"}, {"b", "a", "c"}, {"", "a"}, {"a", ""}, {"ab", "a", "b"},
		{"\xff", "\x7f", "\x80", "a", "B"}, {strings.Repeat("k", longKey), "k", strings.Repeat("k", longKey-1)},
		{strings.Repeat("é", longKey/2), "e"},
	} {
		s := store.New()
		var want []api.Entry
		for _, k := range keys {
			put(t, s, k, "of "+k)
			want = append(want, api.Entry{Key: k, Value: "of " + k, Version: 1})
		}
		slices.SortFunc(want, func(e, f api.Entry) int { return strings.Compare(e.Key, f.Key) })
		has(t, s, want...)
	}
}

// P7.1 (G2): the longest key and value may be, and the empty ones; longer ones may not, be they there or not, and whatever else there is.
func TestPutLongOnes(t *testing.T) {
	key, value := strings.Repeat("k", longKey), strings.Repeat("v", longValue)
	s := store.New()
	put(t, s, key, value)
	put(t, s, "", value)
	put(t, s, "a", "")
	put(t, s, "", "")
	put(t, s, "e", strings.Repeat("é", longValue/2))
	want := []api.Entry{{Key: "", Version: 2}, {Key: "a", Version: 1}, {Key: "e", Value: strings.Repeat("é", longValue/2), Version: 1}, {Key: key, Value: value, Version: 1}}
	has(t, s, want...)
	for _, x := range []*store.Store{s, store.New(), having(t, entries(most)...)} {
		for _, c := range [][2]string{
			{key + "k", "x"}, {key + "k", ""}, {strings.Repeat("é", longKey/2+1), "x"}, {strings.Repeat("k", 1<<16), "x"},
			{"a", value + "v"}, {"new", value + "v"}, {"", value + "v"}, {odd(0), value + "v"}, {"a", strings.Repeat("é", longValue/2+1)}, {"a", strings.Repeat("v", 1<<16)},
			{key + "k", value + "v"},
		} {
			unput(t, x, api.ErrArg, c[0], c[1])
		}
	}
	has(t, s, want...)
}

// P7.1 (G2), P7.2: a version of 2^62 less one has a next one; one of 2^62 or more has none.
func TestPutAtTheEndOfVersions(t *testing.T) {
	s := having(t, named("a", 1), named("b", endVersion-2), named("c", endVersion-1), named("d", endVersion), named("e", endVersion+1), named("f", math.MaxInt64))
	for _, k := range []string{"a", "b", "c"} {
		put(t, s, k, "x")
	}
	unput(t, s, api.ErrArg, "c", "y")
	unput(t, s, api.ErrArg, "d", "y")
	unput(t, s, api.ErrArg, "e", "y")
	unput(t, s, api.ErrArg, "f", "y")
	put(t, s, "b", "y")
	unput(t, s, api.ErrArg, "b", "z")
	has(t, s,
		api.Entry{Key: "a", Value: "x", Version: 2}, api.Entry{Key: "b", Value: "y", Version: endVersion}, api.Entry{Key: "c", Value: "x", Version: endVersion},
		named("d", endVersion), named("e", endVersion+1), named("f", math.MaxInt64))
	if text := fault.Text(s.Put("d", "")); text != "store 6: cohort: error 1" {
		t.Error(text)
	}
	for _, k := range []string{"cc", "dd", "ee"} {
		put(t, s, k, "new")
		if e, _ := s.Get(k); e != (api.Entry{Key: k, Value: "new", Version: 1}) {
			t.Errorf("a new key beside one of the last version is %v", e)
		}
	}
}

// P7.1 (G2): a new key comes in as long as there is room, as the last one too; a key that is there has its next version in a full store as well.
func TestPutIntoAFullStore(t *testing.T) {
	s := having(t, entries(most-1)...)
	put(t, s, even(60), "new")
	want := slices.Insert(entries(most-1), 61, api.Entry{Key: even(60), Value: "new", Version: 1})
	has(t, s, want...)
	for _, k := range []string{"", "0000", even(0), even(59), even(most), "a", "\xff", strings.Repeat("k", longKey)} {
		unput(t, s, api.ErrFull, k, "x")
		unput(t, s, api.ErrFull, k, "")
	}
	if text := fault.Text(s.Put("a", "x")); text != "store 128: cohort: error 71" {
		t.Error(text)
	}
	for _, i := range []int{0, 61, most - 1} {
		put(t, s, want[i].Key, "again")
		want[i].Value = "again"
		want[i].Version++
		has(t, s, want...)
	}
	s.Drop(even(60), odd(61))
	put(t, s, "a", "x")
	unput(t, s, api.ErrFull, even(60), "x")
}

// P7.1 (G2): a full store of a version's end: what may not be is told ahead of what there is no room for.
func TestPutTellsArgumentsFirst(t *testing.T) {
	l := entries(most)
	l[7].Version = endVersion
	s := having(t, l...)
	unput(t, s, api.ErrArg, l[7].Key, "x")
	unput(t, s, api.ErrArg, strings.Repeat("k", longKey+1), "x")
	unput(t, s, api.ErrArg, "new", strings.Repeat("v", longValue+1))
	unput(t, s, api.ErrFull, "new", strings.Repeat("v", longValue))
}

// P7.1 (G2): there is room for as many as are left, for none, and for fewer than none.
func TestRoom(t *testing.T) {
	for _, many := range []int{0, 1, 2, 64, most - 1, most} {
		s := having(t, entries(many)...)
		left := most - many
		for _, more := range []int{math.MinInt, math.MinInt + 1, -1 << 32, -most - 1, -most, -1, 0, left - 1, left} {
			if !s.Room(more) {
				t.Errorf("with %d entries there is no room for %d", many, more)
			}
		}
		for _, more := range []int{left + 1, most + 1, 1 << 31, 1 << 32, 1<<32 + 1, math.MaxInt - most, math.MaxInt - many, math.MaxInt - 1, math.MaxInt} {
			if s.Room(more) {
				t.Errorf("with %d entries there is room for %d", many, more)
			}
		}
		has(t, s, entries(many)...)
	}
}

// bounds are pairs of bounds and how many of the keys b, d, f, h are ahead of the range, and ahead of its end.
func bounds() map[[2]string][2]int {
	return map[[2]string][2]int{
		{"", ""}:   {0, 4},
		{"", "a"}:  {0, 0},
		{"", "b"}:  {0, 0},
		{"", "c"}:  {0, 1},
		{"", "h"}:  {0, 3},
		{"", "i"}:  {0, 4},
		{"a", ""}:  {0, 4},
		{"b", ""}:  {0, 4},
		{"c", ""}:  {1, 4},
		{"d", ""}:  {1, 4},
		{"h", ""}:  {3, 4},
		{"i", ""}:  {4, 4},
		{"b", "h"}: {0, 3},
		{"b", "i"}: {0, 4},
		{"c", "g"}: {1, 3},
		{"d", "f"}: {1, 2},
		{"d", "g"}: {1, 3},
		{"c", "f"}: {1, 2},
		{"d", "e"}: {1, 2},
		{"e", "f"}: {2, 2},
		{"c", "d"}: {1, 1},
		{"a", "b"}: {0, 0},
		{"i", "j"}: {4, 4},
		{"d", "d"}: {1, 1},
		{"e", "e"}: {2, 2},
		{"a", "a"}: {0, 0},
		{"i", "i"}: {4, 4},
		{"f", "d"}: {2, 2},
		{"g", "c"}: {3, 3},
		{"h", "b"}: {3, 3},
		{"i", "a"}: {4, 4},
		{"f", "e"}: {2, 2},

		{"d\x00", "f\x00"}: {2, 3},
		{"\x00", "\xff"}:   {0, 4},
		{"D", "F"}:         {0, 0},
		{strings.Repeat("c", 99), strings.Repeat("h", 99)}: {1, 4},
	}
}

// P7.1 (G3): a range has just the keys from its from on and below its to, all above of an empty one; asking changes nothing.
func TestRange(t *testing.T) {
	l := of("b", "d", "f", "h")
	s := having(t, l...)
	for r, at := range bounds() {
		if got := s.Range(r[0], r[1]); !slices.Equal(got, l[at[0]:at[1]]) {
			t.Errorf("from %q to %q there are %v, not %v", r[0], r[1], got, l[at[0]:at[1]])
		}
		if got := store.New().Range(r[0], r[1]); len(got) != 0 {
			t.Errorf("from %q to %q there are %v of none", r[0], r[1], got)
		}
	}
	has(t, s, l...)
}

// P7.1 (G3): an empty key is in what begins at an empty from, and in nothing else.
func TestRangeOfAnEmptyKey(t *testing.T) {
	l := of("", "a")
	s := having(t, l...)
	for r, many := range map[[2]string]int{{"", ""}: 2, {"", "a"}: 1, {"", "\x00"}: 1, {"", "b"}: 2} {
		if got := s.Range(r[0], r[1]); !slices.Equal(got, l[:many]) {
			t.Errorf("from %q to %q there are %v", r[0], r[1], got)
		}
	}
	if got := s.Range("\x00", ""); !slices.Equal(got, l[1:]) {
		t.Errorf("without the empty key there are %v", got)
	}
	s.Drop("", "\x00")
	has(t, s, l[1])
}

// P7.1 (G3): just that range is gone.
func TestDrop(t *testing.T) {
	l := of("b", "d", "f", "h")
	for r, at := range bounds() {
		s := having(t, l...)
		for range 2 {
			s.Drop(r[0], r[1])
			has(t, s, slices.Concat(l[:at[0]], l[at[1]:])...)
		}
		for _, e := range l[at[0]:at[1]] {
			lacks(t, s, e.Key)
		}
		empty := store.New()
		empty.Drop(r[0], r[1])
		has(t, empty)
	}
}

// P7.1 (G3): what was dropped has left room, and begins anew.
func TestDropLeavesRoom(t *testing.T) {
	s := having(t, entries(most)...)
	s.Drop(odd(30), odd(40))
	if !s.Room(10) || s.Room(11) {
		t.Error("room")
	}
	put(t, s, odd(35), "x")
	if e, _ := s.Get(odd(35)); e != (api.Entry{Key: odd(35), Value: "x", Version: 1}) {
		t.Errorf("a key that was dropped is %v", e)
	}
	s.Drop("", "")
	has(t, s)
	lay(t, s, entries(most)...)
	has(t, s, entries(most)...)
}

// P7.1 (G3): nothing comes of nothing.
func TestLayNothing(t *testing.T) {
	for _, many := range []int{0, 1, 5, most} {
		s := having(t, entries(many)...)
		lay(t, s)
		if err := s.Lay([]api.Entry{}); err != nil {
			t.Error(err)
		}
		has(t, s, entries(many)...)
	}
}

// P7.1 (G3): what is laid is there as it is, in place of what its key had, also of a lower version; all others stay.
func TestLay(t *testing.T) {
	had := []api.Entry{named("b", 5), named("d", 5), named("f", 5), named("h", 5)}
	for _, c := range []struct{ laid, want []api.Entry }{
		{[]api.Entry{named("a", 1)}, slices.Concat([]api.Entry{named("a", 1)}, had)},
		{[]api.Entry{named("", 9)}, slices.Concat([]api.Entry{named("", 9)}, had)},
		{[]api.Entry{named("i", 1), named("j", 2)}, slices.Concat(had, []api.Entry{named("i", 1), named("j", 2)})},
		{[]api.Entry{named("c", 1), named("e", 2), named("g", 3)}, []api.Entry{had[0], named("c", 1), had[1], named("e", 2), had[2], named("g", 3), had[3]}},
		{[]api.Entry{named("b", 4)}, []api.Entry{named("b", 4), had[1], had[2], had[3]}},
		{[]api.Entry{named("d", 1), named("f", 6)}, []api.Entry{had[0], named("d", 1), named("f", 6), had[3]}},
		{[]api.Entry{named("h", endVersion)}, []api.Entry{had[0], had[1], had[2], named("h", endVersion)}},
		{[]api.Entry{named("b", 1), named("d", 1), named("f", 1), named("h", 1)}, []api.Entry{named("b", 1), named("d", 1), named("f", 1), named("h", 1)}},
		{[]api.Entry{named("a", 1), named("d", 7), named("e", 1), named("h", 7), named("i", math.MaxInt64)}, []api.Entry{named("a", 1), had[0], named("d", 7), named("e", 1), had[2], named("h", 7), named("i", math.MaxInt64)}},
		{[]api.Entry{{Key: "d", Value: "", Version: 1}}, []api.Entry{had[0], {Key: "d", Version: 1}, had[2], had[3]}},
		{had, had},
	} {
		s := having(t, had...)
		for range 2 {
			lay(t, s, c.laid...)
			has(t, s, c.want...)
		}
		empty := store.New()
		lay(t, empty, c.laid...)
		has(t, empty, c.laid...)
	}
}

// P7.1 (G3), P7.2: a Put behind a Lay goes on from the version that was laid.
func TestPutBehindLay(t *testing.T) {
	s := store.New()
	put(t, s, "a", "x")
	lay(t, s, named("a", 40), named("b", endVersion))
	put(t, s, "a", "y")
	unput(t, s, api.ErrArg, "b", "y")
	has(t, s, api.Entry{Key: "a", Value: "y", Version: 41}, named("b", endVersion))
}

// P7.1 (G3): as many new keys are laid as there is room for, however many are there already; with one more nothing is.
func TestLayIntoAFullStore(t *testing.T) {
	had := entries(most - 3)
	var fresh []api.Entry
	for _, i := range []int{0, 50, 200} {
		fresh = append(fresh, named(even(i), 7))
	}
	s := having(t, had...)
	unlaid(t, s, api.ErrFull, append(slices.Clone(fresh), named("x", 1))...)
	unlaid(t, s, api.ErrFull, slices.Concat(had[:1], fresh, []api.Entry{named("x", 1)})...)
	unlaid(t, s, api.ErrFull, entries(most + 1)[1:]...)
	if text := fault.Text(s.Lay(append(slices.Clone(fresh), named("x", 1)))); text != "store 125: cohort: error 71" {
		t.Error(text)
	}

	lay(t, s, fresh...)
	want := slices.Concat(had[:1], fresh[:1], had[1:51], fresh[1:2], had[51:], fresh[2:])
	has(t, s, want...)
	unlaid(t, s, api.ErrFull, named("x", 1))
	unlaid(t, s, api.ErrFull, named("", 1))
	for i := range want {
		want[i].Version += 3
	}
	lay(t, s, want[20:30]...)
	lay(t, s, want...)
	has(t, s, want...)

	one := having(t, named("a", 1))
	unlaid(t, one, api.ErrFull, entries(most)...)
	lay(t, one, entries(most-1)...)
	has(t, one, append(entries(most-1), named("a", 1))...)
}

// P7.1 (G3): what Of refuses is not laid, be there room or not, and none of it is.
func TestLayWrongEntries(t *testing.T) {
	for what, l := range wrongLists() {
		for _, s := range []*store.Store{store.New(), having(t, named("a", 3), named("c", 3)), having(t, entries(most)...)} {
			many := len(s.Range("", ""))
			unlaid(t, s, api.ErrArg, l...)
			if text := fault.Text(s.Lay(l)); text != fmt.Sprintf("store %d: cohort: error 1", many) {
				t.Errorf("%s: %q", what, text)
			}
		}
	}
}

// P7.2: whichever key is put, it alone has changed: its value, and its version is one more.
func TestPutChangesOneKey(t *testing.T) {
	for _, many := range []int{0, 1, 2, 3, 8, most - 1} {
		had := entries(many)
		for i := range many {
			s := having(t, had...)
			put(t, s, odd(i), "x")
			want := slices.Clone(had)
			want[i] = api.Entry{Key: odd(i), Value: "x", Version: had[i].Version + 1}
			has(t, s, want...)
			put(t, s, odd(i), "x")
			want[i].Version++
			has(t, s, want...)
		}
		for i := range many + 1 {
			s := having(t, had...)
			key := fmt.Sprintf("%04d", 2*i)
			put(t, s, key, "x")
			has(t, s, slices.Insert(slices.Clone(had), i, api.Entry{Key: key, Value: "x", Version: 1})...)
		}
	}
}

// P7.3: whichever range is dropped and laid again, it is as it was, and all others too.
func TestDroppedAndLaidAgain(t *testing.T) {
	l := of("b", "d", "f", "h")
	for r := range bounds() {
		again(t, having(t, l...), r[0], r[1])
	}
	full := entries(most)
	full[3].Version, full[4].Value = math.MaxInt64, ""
	for _, r := range [][2]string{{"", ""}, {odd(0), odd(most)}, {odd(3), odd(5)}, {even(3), even(9)}, {odd(most - 1), ""}, {"", odd(1)}, {odd(9), odd(3)}} {
		again(t, having(t, full...), r[0], r[1])
	}
	again(t, store.New(), "", "")
	again(t, having(t, named("", 2)), "", "a")
}

// again drops a range and lays it, into the store and into an empty one.
func again(t *testing.T, s *store.Store, from, to string) {
	t.Helper()
	had, l := s.Range("", ""), s.Range(from, to)
	s.Drop(from, to)
	lay(t, s, l...)
	has(t, s, had...)
	other := store.New()
	lay(t, other, l...)
	has(t, other, l...)
}

// plain does by the chapter's words what the program does: it keeps entries in a map.
type plain map[string]api.Entry

func (p plain) within(from, to string) []api.Entry {
	var l []api.Entry
	for k, e := range p {
		if k >= from && (to == "" || k < to) {
			l = append(l, e)
		}
	}
	slices.SortFunc(l, func(e, f api.Entry) int { return strings.Compare(e.Key, f.Key) })
	return l
}

func (p plain) put(key, value string) api.Errno {
	e, there := p[key]
	switch {
	case len(key) > longKey || len(value) > longValue || e.Version >= endVersion:
		return api.ErrArg
	case !there && len(p) >= most:
		return api.ErrFull
	}
	p[key] = api.Entry{Key: key, Value: value, Version: e.Version + 1}
	return api.OK
}

func (p plain) lay(l []api.Entry) api.Errno {
	many := len(p)
	for i, e := range l {
		if i > 0 && e.Key <= l[i-1].Key || e.Version < 1 || len(l) > most {
			return api.ErrArg
		}
		if _, there := p[e.Key]; !there {
			many++
		}
	}
	if many > most {
		return api.ErrFull
	}
	for _, e := range l {
		p[e.Key] = e
	}
	return api.OK
}

// dice are numbers that follow from where they begin.
type dice uint32

func (d *dice) roll(below int) int {
	*d = *d*1664525 + 1013904223
	return int(*d>>8) % below
}

// key is one of few, so that it often is there.
func (d *dice) key(among int) string { return fmt.Sprintf("%03d", d.roll(among)) }

func (d *dice) list(among int) []api.Entry {
	var l []api.Entry
	for i := range among {
		if d.roll(4) == 0 {
			l = append(l, named(fmt.Sprintf("%03d", i), int64(d.roll(200))))
		}
	}
	for i := range l {
		if l[i].Version == 0 && d.roll(20) > 0 {
			l[i].Version = endVersion - int64(d.roll(2))
		}
	}
	return l
}

// P7.1, P7.2: whatever comes, in whichever order, the store answers as a plain map of its keys does, and has what that has.
func TestWhateverComes(t *testing.T) {
	for _, among := range []int{6, 150, 400} {
		d, s, p := dice(among), store.New(), plain{}
		met := map[api.Errno]int{}
		for step := range 1500 {
			var got error
			want := api.OK
			switch d.roll(12) {
			case 0:
				from, to := d.key(among), d.key(among)
				if d.roll(4) > 0 {
					to = from + "9"
				}
				s.Drop(from, to)
				for _, e := range p.within(from, to) {
					delete(p, e.Key)
				}
			case 1:
				l := d.list(among)
				got, want = s.Lay(l), p.lay(l)
			default:
				key, value := d.key(among), strings.Repeat("v", d.roll(longValue+2))
				got, want = s.Put(key, value), p.put(key, value)
			}
			met[want]++
			if fault.Code(got) != want {
				t.Fatalf("step %d: error %v, not %d", step, got, want)
			}
			from, to := d.key(among), d.key(among)
			if l := s.Range(from, to); !slices.Equal(l, p.within(from, to)) {
				t.Fatalf("step %d: from %q to %q there are %v, not %v", step, from, to, l, p.within(from, to))
			}
			has(t, s, p.within("", "")...)
		}
		if met[api.OK] < 100 || met[api.ErrArg] == 0 || among > most && met[api.ErrFull] == 0 {
			t.Errorf("among %d: %v tells too little", among, met)
		}
	}
}

// P3: a store is its own: not another one's of the same entries, nor of one that another one answered.
func TestStoresOfTheirOwn(t *testing.T) {
	l := entries(5)
	one, other := having(t, l...), having(t, l...)
	third := having(t, one.Range("", "")...)
	fourth := store.New()
	lay(t, fourth, one.Range("", "")...)
	put(t, one, odd(2), "x")
	one.Drop("", odd(1))
	for _, s := range []*store.Store{other, third, fourth} {
		has(t, s, l...)
	}
}

// P3: a list that was handed in is not changed, nor its spare room, and not kept: whoever handed it in may change it then.
func TestListsThatAreHandedIn(t *testing.T) {
	whole := entries(8)
	for what, take := range map[string]func(l []api.Entry) *store.Store{
		"of": func(l []api.Entry) *store.Store { return having(t, l...) },
		"lay": func(l []api.Entry) *store.Store {
			s := store.New()
			lay(t, s, l...)
			return s
		},
		"lay into some": func(l []api.Entry) *store.Store {
			s := having(t, named(odd(0), 9))
			lay(t, s, l...)
			return s
		},
		"lay behind some": func(l []api.Entry) *store.Store {
			s := having(t, l[:2]...)
			lay(t, s, l[2:]...)
			return s
		},
	} {
		given := entries(8)
		s := take(given[:5])
		put(t, s, odd(1), "x")
		put(t, s, "a", "x")
		s.Drop(odd(2), odd(4))
		if !slices.Equal(given, whole) {
			t.Errorf("%s: a list that was handed in is changed: %v", what, given)
		}
		want := s.Range("", "")
		for i := range given {
			given[i] = named("changed", 77)
		}
		has(t, s, want...)
	}
}

// P3: a list that came out may change then, its spare room too; the store, and other answers, stay as they are, and so does it, whatever the store does.
func TestListsThatComeOut(t *testing.T) {
	l := entries(9)
	s := having(t, l...)
	for _, r := range [][2]string{{"", ""}, {odd(2), odd(5)}, {odd(4), ""}, {"", odd(7)}, {odd(3), odd(3)}} {
		first, second, want := s.Range(r[0], r[1]), s.Range(r[0], r[1]), s.Range(r[0], r[1])
		spare := first[:cap(first)]
		for i := range spare {
			spare[i] = named("changed", 77)
		}
		_ = append(first, named("more", 88))
		if !slices.Equal(second, want) {
			t.Errorf("a change of one answer is seen in another: %v", second)
		}
		has(t, s, l...)
	}

	kept := s.Range("", "")
	put(t, s, odd(0), "x")
	put(t, s, "0000", "x")
	s.Drop(odd(3), odd(6))
	lay(t, s, named(odd(8), 99))
	if !slices.Equal(kept, l) {
		t.Errorf("what the store does is seen in an answer: %v", kept)
	}
}
