package route_test

import (
	"errors"
	"fmt"
	"math"
	"slices"
	"strings"
	"testing"

	"cohort/api"
	"cohort/fault"
	"cohort/route"
)

// The bounds, as the chapter counts them: how many pieces, the last shard, the last epoch, and how many bytes of a key.
const (
	most      = 32
	lastShard = 3
	lastEpoch = 1 << 40
	longKey   = 16
)

// key is a key of so many bytes.
func key(long int) string { return strings.Repeat("k", long) }

// tooLong are keys that are longer than a bound of a range, and a From, may be.
func tooLong() []string {
	return []string{key(longKey + 1), strings.Repeat("é", longKey/2+1), strings.Repeat("\x00", longKey+1), key(1 << 16)}
}

// odd is the i-th of keys that leave some between them: 0001, 0003, 0005 and so on; even is the one behind it.
func odd(i int) string { return fmt.Sprintf("%04d", 2*i+1) }

func even(i int) string { return fmt.Sprintf("%04d", 2*i+2) }

// many are so many pieces: the first one at the empty key, the i-th at odd(i), of shards and epochs in turn.
func many(n int) []api.Piece {
	var l []api.Piece
	for i := range n {
		p := api.Piece{From: odd(i), Shard: i % (lastShard + 1), Epoch: int64(i%5) + 1}
		if i == 0 {
			p.From = ""
		}
		l = append(l, p)
	}
	return l
}

// rows are pieces in short.
type rows []struct {
	from  string
	shard int
	epoch int64
}

func (l rows) pieces() []api.Piece {
	var out []api.Piece
	for _, x := range l {
		out = append(out, api.Piece{From: x.from, Shard: x.shard, Epoch: x.epoch})
	}
	return out
}

// four are four pieces: from nothing on, from b, from d and from f.
func four() []api.Piece {
	return rows{{"", 0, 1}, {"b", 1, 5}, {"d", 0, 3}, {"f", 3, 7}}.pieces()
}

// of is a route of pieces that may be.
func of(t *testing.T, l ...api.Piece) *route.Route {
	t.Helper()
	r, err := route.Of(l)
	if err != nil || r == nil {
		t.Fatalf("Of(%v): %v, %q", l, r, fault.Text(err))
	}
	has(t, r, l)
	return r
}

// has holds that a route has just these pieces.
func has(t *testing.T, r *route.Route, want []api.Piece) {
	t.Helper()
	if got := r.Pieces(); !slices.Equal(got, want) {
		t.Errorf("the pieces are %v, not %v", got, want)
	}
	for i, p := range want {
		if got := r.Owner(p.From); got != p {
			t.Errorf("Owner(%q) is %v, not %v", p.From, got, p)
		}
		to := ""
		if i+1 < len(want) {
			to = want[i+1].From
		}
		if got, is := r.One(p.From, to); !is || got != p {
			t.Errorf("One(%q, %q) is %v, %v, not %v", p.From, to, got, is, p)
		}
	}
}

// wrong holds that an error has a number, and came through route alone, at a step.
func wrong(t *testing.T, err error, e api.Errno, at int, what string) {
	t.Helper()
	if fault.Code(err) != e || !errors.Is(err, e) || !slices.Equal(fault.Trail(err), []api.Step{{Where: "route", At: at}}) {
		t.Errorf("%s: error %q, not %d at %d", what, fault.Text(err), e, at)
	}
	if text := fmt.Sprintf("route %d: cohort: error %d", at, int(e)); fault.Text(err) != text {
		t.Errorf("%s: the error is told as %q, not %q", what, fault.Text(err), text)
	}
}

// none holds that there is no route of some pieces, and why.
func none(t *testing.T, e api.Errno, at int, l []api.Piece) {
	t.Helper()
	r, err := route.Of(l)
	if r != nil {
		t.Errorf("Of %d pieces is a route", len(l))
	}
	wrong(t, err, e, at, fmt.Sprintf("Of %d pieces", len(l)))
}

// refused holds that a range is not moved, why, and that all is as it was.
func refused(t *testing.T, r *route.Route, e api.Errno, at int, from, to string, shard int) {
	t.Helper()
	had := r.Pieces()
	wrong(t, r.Move(from, to, shard), e, at, fmt.Sprintf("Move(%q, %q, %d) of %d pieces", from, to, shard, len(had)))
	has(t, r, had)
}

// move holds that a range is moved.
func move(t *testing.T, r *route.Route, from, to string, shard int) {
	t.Helper()
	if err := r.Move(from, to, shard); err != nil {
		t.Errorf("Move(%q, %q, %d): %q", from, to, shard, fault.Text(err))
	}
}

// P9.1 (I1): pieces that may be are a route's, just as they are, each of them at the edges of what may be.
func TestOf(t *testing.T) {
	for _, l := range [][]api.Piece{
		{{Epoch: 1}},
		{{Shard: lastShard, Epoch: lastEpoch}},
		{{Shard: 1, Epoch: 2}, {From: "\x00", Shard: 2, Epoch: 1}},
		{{Epoch: 1}, {From: "\xff", Shard: lastShard, Epoch: lastEpoch - 1}},
		{{Epoch: 1}, {From: "m", Epoch: 1}},
		{{Epoch: 1}, {From: "a", Epoch: 1}, {From: "aa", Epoch: 1}, {From: "ab", Epoch: 1}, {From: "b", Epoch: 1}},
		{{Epoch: 1}, {From: "A", Epoch: 1}, {From: "a", Epoch: 1}, {From: "z", Epoch: 1}, {From: "é", Epoch: 1}},
		{{Epoch: 1}, {From: "a", Epoch: 1}, {From: "a\x00", Epoch: 1}},
		{{Epoch: 1}, {From: key(longKey - 1), Epoch: 1}, {From: key(longKey), Epoch: 1}},
		{{Epoch: 1}, {From: strings.Repeat("é", longKey/2), Epoch: 1}},
		{{Epoch: 1}, {From: strings.Repeat("\xff", longKey), Epoch: 1}},
		four(),
		many(2),
		many(most - 1),
		many(most),
	} {
		of(t, l...)
	}
}

// P9.1 (I1): without a piece there is no route.
func TestOfNothing(t *testing.T) {
	none(t, api.ErrArg, 0, nil)
	none(t, api.ErrArg, 0, []api.Piece{})
	none(t, api.ErrArg, 0, four()[:0])
}

// P9.1 (I1): more than MaxPieces are too many; that is told with their number, ahead of pieces that may not be.
func TestOfTooMany(t *testing.T) {
	for _, n := range []int{most + 1, most + 2, 2 * most, 5000} {
		none(t, api.ErrFull, n, many(n))
		none(t, api.ErrFull, n, make([]api.Piece, n))
		l := many(n)
		l[0].From = "a"
		l[7].Shard = -1
		none(t, api.ErrFull, n, l)
	}
	none(t, api.ErrArg, 0, make([]api.Piece, most))
}

// spoilt are the ways in which a piece that stands behind another one may not be.
func spoilt() map[string]func(p *api.Piece) {
	ways := map[string]func(p *api.Piece){}
	for i, from := range tooLong() {
		// Above all others, so that its length alone is wrong.
		ways[fmt.Sprint("too long ", i)] = func(p *api.Piece) { p.From = "\xff" + from[1:] }
	}
	for _, shard := range []int{-1, lastShard + 1, math.MinInt, math.MaxInt, 1 << 32, -1 << 32} {
		ways[fmt.Sprint("shard ", shard)] = func(p *api.Piece) { p.Shard = shard }
	}
	for _, epoch := range []int64{0, -1, lastEpoch + 1, math.MinInt64, math.MaxInt64} {
		ways[fmt.Sprint("epoch ", epoch)] = func(p *api.Piece) { p.Epoch = epoch }
	}
	return ways
}

// P9.1 (I1): a piece that may not be is told, wherever it stands, and whatever is wrong with it.
func TestOfWhatMayNotBe(t *testing.T) {
	for name, spoil := range spoilt() {
		for _, n := range []int{1, 2, 5, most} {
			for at := range n {
				l := many(n)
				spoil(&l[at])
				t.Run(name, func(t *testing.T) { none(t, api.ErrArg, at, l) })
			}
		}
	}
}

// P9.1 (I1): the first piece begins at the empty key, and no other one does.
func TestOfFirstFrom(t *testing.T) {
	for _, from := range append(tooLong(), "a", "\x00", " ", "\xff", odd(0), key(longKey)) {
		for _, n := range []int{1, 2, most} {
			l := many(n)
			l[0].From = from
			none(t, api.ErrArg, 0, l)
		}
	}
	for at := 1; at < most; at++ {
		l := many(most)
		l[at].From = ""
		none(t, api.ErrArg, at, l)
	}
}

// P9.1 (I1): each piece begins above the one ahead: of two alike, or of one that falls, the later one may not be.
func TestOfRisingFroms(t *testing.T) {
	for _, x := range [][2]string{{"b", "b"}, {"b", "a"}, {"b", "ab"}, {"b", "B"}, {"ab", "a"}, {"a\x00", "a"}, {"é", "z"}, {"\xff", "\x00"}, {key(longKey), key(longKey)}, {key(longKey), key(longKey - 1)}} {
		none(t, api.ErrArg, 2, []api.Piece{{Epoch: 1}, {From: x[0], Epoch: 1}, {From: x[1], Epoch: 1}})
		none(t, api.ErrArg, 2, []api.Piece{{Epoch: 1}, {From: x[0], Epoch: 2}, {From: x[1], Shard: 1, Epoch: 1}, {From: "\xff\xff", Epoch: 1}})
	}
	for at := 2; at < most; at++ {
		for _, from := range []string{odd(at - 1), even(at - 2), odd(1), "\x00"} {
			l := many(most)
			l[at].From = from
			none(t, api.ErrArg, at, l)
		}
	}
	// Above the one two ahead is not above the one ahead.
	none(t, api.ErrArg, 3, []api.Piece{{Epoch: 1}, {From: "b", Epoch: 1}, {From: "f", Epoch: 1}, {From: "d", Epoch: 1}, {From: "h", Epoch: 1}})
}

// P9.1 (I1): of several pieces that may not be the first one is told, whatever is wrong with which.
func TestOfFirstThatMayNotBe(t *testing.T) {
	ways := spoilt()
	ways["falls"] = func(p *api.Piece) { p.From = "" }
	for name, spoil := range ways {
		for other, then := range ways {
			l := many(9)
			then(&l[5])
			then(&l[8])
			spoil(&l[3])
			t.Run(name+", "+other, func(t *testing.T) { none(t, api.ErrArg, 3, l) })
		}
	}
	l := many(9)
	l[0].From, l[1].From, l[2].Shard, l[4].Epoch = "a", "", 9, 0
	none(t, api.ErrArg, 0, l)
	l[0].From = ""
	none(t, api.ErrArg, 1, l)
	l[1].From = odd(1)
	none(t, api.ErrArg, 2, l)
	l[2].Shard = 0
	none(t, api.ErrArg, 4, l)
	l[4].Epoch = 1
	of(t, l...)
}

// P9.1 (I2), P9.2: a key's owner is the last piece that begins at it, or below.
func TestOwner(t *testing.T) {
	l := four()
	l = append(l, api.Piece{From: "f\x00", Shard: 2, Epoch: 9}, api.Piece{From: key(longKey), Shard: 1, Epoch: lastEpoch})
	r := of(t, l...)
	for at, keys := range [][]string{
		{"", "\x00", "A", "a", "a\xff", "azzzzzzzzzzzzzzz", "a" + key(1<<16), strings.Repeat("\x00", 100)},
		{"b", "b\x00", "ba", "c", "c\xff\xff", "b" + key(1<<16)},
		{"d", "d\x00", "e", "e\xff", "d" + key(longKey)},
		{"f"},
		{"f\x00", "f\x00\x00", "f\x01", "g", "k", "kk", key(longKey - 1), strings.Repeat("k", longKey-1) + "j"},
		{key(longKey), key(longKey + 1), key(1 << 16), "l", "z", "é", "\xff", strings.Repeat("\xff", 1<<16)},
	} {
		for _, k := range keys {
			for range 2 {
				if p := r.Owner(k); p != l[at] {
					t.Errorf("Owner(%.20q) is %v, not %v", k, p, l[at])
				}
			}
		}
	}
	has(t, r, l)
}

// P9.1 (I2): of one piece it is each key's; of MaxPieces each has those from its own From on.
func TestOwnerOfOneAndOfAll(t *testing.T) {
	only := api.Piece{Shard: 2, Epoch: 6}
	r := of(t, only)
	for _, k := range append(tooLong(), "", "\x00", "m", "\xff") {
		if p := r.Owner(k); p != only {
			t.Errorf("Owner(%.20q) is %v", k, p)
		}
	}
	l := many(most)
	r = of(t, l...)
	for i, p := range l {
		for _, k := range []string{p.From, p.From + "\x00", even(i), even(i) + key(99)} {
			if got := r.Owner(k); got != p {
				t.Errorf("Owner(%.20q) is %v, not %v", k, got, p)
			}
		}
		if i > 0 && r.Owner(even(i-1)+"\xff") != l[i-1] {
			t.Errorf("just below %q it is %v", p.From, r.Owner(even(i-1)+"\xff"))
		}
	}
}

// noRanges are bounds of what is no range.
func noRanges() [][2]string {
	l := [][2]string{
		{"b", "a"}, {"b", "b"}, {"c", "b"}, {"e", "d"}, {"d", "d"}, {"a", "A"}, {"ab", "a"}, {"a\x00", "a"}, {"\x00", "\x00"}, {"é", "z"}, {"\xff", "\x00"},
		{key(longKey), key(longKey)}, {key(longKey), key(longKey - 1)},
		{key(longKey + 1), key(longKey + 2)}, {key(longKey + 1), "l"}, {key(longKey + 2), key(longKey + 1)},
	}
	for _, long := range tooLong() {
		l = append(l, [2]string{long, ""}, [2]string{long, "\xff"}, [2]string{"", long}, [2]string{"\x00", long}, [2]string{long, long})
	}
	return l
}

// P9.1 (I2): a range that lies in one piece has that piece, be it all of it or some; one that has a key of another piece has none.
func TestOne(t *testing.T) {
	l := four()
	r := of(t, l...)
	two := -1
	for x, at := range map[[2]string]int{
		{"", "a"}: 0, {"", "\x00"}: 0, {"", "b"}: 0, {"a", "b"}: 0, {"a", "a\x00"}: 0, {"a\xff", "b"}: 0, {"\x00", "\x01"}: 0,
		{"b", "c"}: 1, {"b", "d"}: 1, {"c", "d"}: 1, {"b", "b\x00"}: 1, {"c", "c\xff"}: 1,
		{"d", "e"}: 2, {"d", "f"}: 2, {"e", "f"}: 2,
		{"f", ""}: 3, {"g", ""}: 3, {"\xff", ""}: 3, {"f", "g"}: 3, {"f", "\xff"}: 3, {"g", "h"}: 3, {strings.Repeat("\xff", longKey), ""}: 3,
		{"", ""}: two, {"", "b\x00"}: two, {"", "c"}: two, {"a", ""}: two, {"a", "c"}: two, {"a", "d"}: two, {"a\xff", "b\x00"}: two, {"a", "\xff"}: two,
		{"b", ""}: two, {"b", "d\x00"}: two, {"b", "e"}: two, {"b", "f"}: two, {"c", "g"}: two, {"d", "f\x00"}: two, {"e", ""}: two, {"e\xff", "f\x00"}: two,
		{"b", "bkkkkkkkkkkkkkkk"}: 1, {"bkkkkkkkkkkkkkkk", "c"}: 1, {"bkkkkkkkkkkkkkkk", "d"}: 1, {"bkkkkkkkkkkkkkkk", "dkkkkkkkkkkkkkkk"}: two, {"fkkkkkkkkkkkkkkk", ""}: 3,
	} {
		p, is := r.One(x[0], x[1])
		if at == two && (is || p != api.Piece{}) || at != two && (!is || p != l[at]) {
			t.Errorf("One(%q, %q) is %v, %v", x[0], x[1], p, is)
		}
	}
	has(t, r, l)
}

// P9.1 (I2): what is no range lies in no piece, even where all keys are in one.
func TestOneOfNoRange(t *testing.T) {
	for _, r := range []*route.Route{of(t, api.Piece{Shard: 1, Epoch: 1}), of(t, four()...), of(t, many(most)...)} {
		for _, x := range noRanges() {
			if p, is := r.One(x[0], x[1]); is || p != (api.Piece{}) {
				t.Errorf("One(%.20q, %.20q) is %v, %v", x[0], x[1], p, is)
			}
		}
	}
	r := of(t, api.Piece{Shard: 1, Epoch: 1})
	for _, x := range [][2]string{{"", ""}, {"", "a"}, {"a", ""}, {"a", "b"}, {key(longKey), ""}, {key(longKey - 1), key(longKey)}, {"", key(longKey)}, {strings.Repeat("é", longKey/2), "\xff"}} {
		if p, is := r.One(x[0], x[1]); !is || p != (api.Piece{Shard: 1, Epoch: 1}) {
			t.Errorf("One(%q, %q) is %v, %v", x[0], x[1], p, is)
		}
	}
}

// P9.1 (I3): the chapter's example.
func TestExample(t *testing.T) {
	r := of(t, api.Piece{Shard: 0, Epoch: 1})
	move(t, r, "k", "p", 2)
	if p := r.Owner("m"); p != (api.Piece{From: "k", Shard: 2, Epoch: 2}) {
		t.Errorf("Owner(m) is %v", p)
	}
	has(t, r, []api.Piece{{Shard: 0, Epoch: 1}, {From: "k", Shard: 2, Epoch: 2}, {From: "p", Shard: 0, Epoch: 1}})
}

// P9.1 (I3), P9.2, P9.3: pieces are cut where the range begins and ends, if none begins there; those of the range alone have the shard, and the next epoch of what they had.
func TestMove(t *testing.T) {
	for _, c := range []struct {
		name     string
		from, to string
		shard    int
		want     rows
	}{
		{"within a piece, cut at both ends", "bb", "c", 2, rows{{"", 0, 1}, {"b", 1, 5}, {"bb", 2, 6}, {"c", 1, 5}, {"d", 0, 3}, {"f", 3, 7}}},
		{"within the first, cut at both ends", "a", "aa", 3, rows{{"", 0, 1}, {"a", 3, 2}, {"aa", 0, 1}, {"b", 1, 5}, {"d", 0, 3}, {"f", 3, 7}}},
		{"within the last, cut at both ends", "g", "h", 0, rows{{"", 0, 1}, {"b", 1, 5}, {"d", 0, 3}, {"f", 3, 7}, {"g", 0, 8}, {"h", 3, 7}}},
		{"cut at its end", "b", "c", 3, rows{{"", 0, 1}, {"b", 3, 6}, {"c", 1, 5}, {"d", 0, 3}, {"f", 3, 7}}},
		{"from the empty key on, cut at its end", "", "a", 2, rows{{"", 2, 2}, {"a", 0, 1}, {"b", 1, 5}, {"d", 0, 3}, {"f", 3, 7}}},
		{"cut at its beginning", "c", "d", 3, rows{{"", 0, 1}, {"b", 1, 5}, {"c", 3, 6}, {"d", 0, 3}, {"f", 3, 7}}},
		{"up to the last key, cut at its beginning", "g", "", 1, rows{{"", 0, 1}, {"b", 1, 5}, {"d", 0, 3}, {"f", 3, 7}, {"g", 1, 8}}},
		{"one piece, cut nowhere", "b", "d", 2, rows{{"", 0, 1}, {"b", 2, 6}, {"d", 0, 3}, {"f", 3, 7}}},
		{"the first piece", "", "b", 1, rows{{"", 1, 2}, {"b", 1, 5}, {"d", 0, 3}, {"f", 3, 7}}},
		{"the last piece", "f", "", 0, rows{{"", 0, 1}, {"b", 1, 5}, {"d", 0, 3}, {"f", 0, 8}}},
		{"two pieces, cut nowhere", "b", "f", 3, rows{{"", 0, 1}, {"b", 3, 6}, {"d", 3, 4}, {"f", 3, 7}}},
		{"over several pieces, cut at both ends", "a", "e", 2, rows{{"", 0, 1}, {"a", 2, 2}, {"b", 2, 6}, {"d", 2, 4}, {"e", 0, 3}, {"f", 3, 7}}},
		{"over several pieces, cut at the end", "b", "g", 2, rows{{"", 0, 1}, {"b", 2, 6}, {"d", 2, 4}, {"f", 2, 8}, {"g", 3, 7}}},
		{"over two, cut at both ends", "c", "e", 1, rows{{"", 0, 1}, {"b", 1, 5}, {"c", 1, 6}, {"d", 1, 4}, {"e", 0, 3}, {"f", 3, 7}}},
		{"over several pieces, up to the last key", "c", "", 1, rows{{"", 0, 1}, {"b", 1, 5}, {"c", 1, 6}, {"d", 1, 4}, {"f", 1, 8}}},
		{"all keys", "", "", 3, rows{{"", 3, 2}, {"b", 3, 6}, {"d", 3, 4}, {"f", 3, 8}}},
		{"a shard that has it already", "b", "d", 1, rows{{"", 0, 1}, {"b", 1, 6}, {"d", 0, 3}, {"f", 3, 7}}},
		{"a shard that has it already, cut at both ends", "g", "h", 3, rows{{"", 0, 1}, {"b", 1, 5}, {"d", 0, 3}, {"f", 3, 7}, {"g", 3, 8}, {"h", 3, 7}}},
		{"one key", "b", "b\x00", 0, rows{{"", 0, 1}, {"b", 0, 6}, {"b\x00", 1, 5}, {"d", 0, 3}, {"f", 3, 7}}},
		{"the empty key alone", "", "\x00", 2, rows{{"", 2, 2}, {"\x00", 0, 1}, {"b", 1, 5}, {"d", 0, 3}, {"f", 3, 7}}},
		{"just below a piece's beginning", "a", "b\x00", 2, rows{{"", 0, 1}, {"a", 2, 2}, {"b", 2, 6}, {"b\x00", 1, 5}, {"d", 0, 3}, {"f", 3, 7}}},
		{"bounds of MaxKey bytes", "fkkkkkkkkkkkkkkk", "gkkkkkkkkkkkkkkk", 0, rows{{"", 0, 1}, {"b", 1, 5}, {"d", 0, 3}, {"f", 3, 7}, {"fkkkkkkkkkkkkkkk", 0, 8}, {"gkkkkkkkkkkkkkkk", 3, 7}}},
	} {
		t.Run(c.name, func(t *testing.T) {
			r := of(t, four()...)
			move(t, r, c.from, c.to, c.shard)
			has(t, r, c.want.pieces())
			if got := movedBy(four(), c.from, c.to, c.shard); !slices.Equal(got, c.want.pieces()) {
				t.Errorf("the test's own reckoning is %v, not %v", got, c.want.pieces())
			}
		})
	}
}

// P9.1 (I3): every shard that there is may be moved to, and none other.
func TestMoveToEachShard(t *testing.T) {
	for shard := range lastShard + 1 {
		r := of(t, four()...)
		move(t, r, "c", "e", shard)
		has(t, r, rows{{"", 0, 1}, {"b", 1, 5}, {"c", shard, 6}, {"d", shard, 4}, {"e", 0, 3}, {"f", 3, 7}}.pieces())
	}
	r := of(t, four()...)
	for _, shard := range []int{-1, lastShard + 1, lastShard + 2, 128, math.MinInt, math.MaxInt, 1 << 32, -1 << 32} {
		for _, x := range [][2]string{{"", ""}, {"c", "e"}, {"b", "d"}, {"f", ""}} {
			refused(t, r, api.ErrArg, shard, x[0], x[1], shard)
		}
	}
}

// P9.1 (I3): what is no range is not moved.
func TestMoveOfNoRange(t *testing.T) {
	for _, r := range []*route.Route{of(t, api.Piece{Shard: 1, Epoch: 1}), of(t, four()...), of(t, many(most)...)} {
		for _, x := range noRanges() {
			refused(t, r, api.ErrRange, 0, x[0], x[1], 2)
		}
	}
}

// P9.1 (I3), P9.3: a piece of the last epoch is not moved, nor what is in a range with it; one of the epoch below comes to it, and one beside the range does not matter.
func TestMoveOfTheLastEpoch(t *testing.T) {
	l := rows{{"", 0, 1}, {"b", 1, lastEpoch}, {"d", 0, lastEpoch - 1}, {"f", 3, 7}}.pieces()
	for _, x := range [][2]string{{"b", "d"}, {"b", "c"}, {"c", "d"}, {"bb", "c"}, {"b", "b\x00"}, {"c\xff", "d\x00"}, {"a", "c"}, {"a\xff", "b\x00"}, {"a", "e"}, {"c", ""}, {"", "c"}, {"", ""}, {"", "f"}} {
		for _, shard := range []int{0, 1, 3} {
			refused(t, of(t, l...), api.ErrArg, -1, x[0], x[1], shard)
		}
	}
	r := of(t, l...)
	move(t, r, "", "b", 3)
	has(t, r, rows{{"", 3, 2}, {"b", 1, lastEpoch}, {"d", 0, lastEpoch - 1}, {"f", 3, 7}}.pieces())
	move(t, r, "d", "", 2)
	has(t, r, rows{{"", 3, 2}, {"b", 1, lastEpoch}, {"d", 2, lastEpoch}, {"f", 2, 8}}.pieces())
	refused(t, r, api.ErrArg, -1, "d", "f", 2)
	refused(t, r, api.ErrArg, -1, "e", "g", 2)
	move(t, r, "f", "g", 0)
	has(t, r, rows{{"", 3, 2}, {"b", 1, lastEpoch}, {"d", 2, lastEpoch}, {"f", 0, 9}, {"g", 2, 8}}.pieces())
	r = of(t, api.Piece{Epoch: lastEpoch})
	refused(t, r, api.ErrArg, -1, "", "", 0)
	refused(t, r, api.ErrArg, -1, "a", "b", 1)
}

// P9.1 (I3): there may be MaxPieces, and no more, be they more by one cut or by two; what needs no cut is moved however many there are.
func TestMoveToTheFull(t *testing.T) {
	for _, c := range []struct {
		had      int
		from, to string
		full     int // how many there would be; 0, if they fit
	}{
		{most - 2, even(3), even(4), 0},
		{most - 2, even(3), even(3) + "\x00", 0},
		{most - 2, even(3), "", 0},
		{most - 1, even(3), odd(4), 0},
		{most - 1, odd(3), even(4), 0},
		{most - 1, even(3), "", 0},
		{most - 1, "", even(7), 0},
		{most - 1, even(3), even(4), most + 1},
		{most - 1, even(3), even(3) + "\x00", most + 1},
		{most - 1, "\x00", even(29), most + 1},
		{most, odd(3), odd(4), 0},
		{most, odd(1), odd(31), 0},
		{most, odd(31), "", 0},
		{most, "", odd(1), 0},
		{most, "", "", 0},
		{most, even(3), odd(4), most + 1},
		{most, odd(3), even(4), most + 1},
		{most, even(31), "", most + 1},
		{most, "", "\x00", most + 1},
		{most, even(3), even(4), most + 2},
		{most, even(3), even(3) + "\x00", most + 2},
		{most, "\x00", even(31), most + 2},
	} {
		l := many(c.had)
		r := of(t, l...)
		if c.full > 0 {
			refused(t, r, api.ErrFull, c.full, c.from, c.to, 2)
			continue
		}
		move(t, r, c.from, c.to, 2)
		has(t, r, movedBy(l, c.from, c.to, 2))
	}
}

// P9.1 (I3), P2: of several errors the one that the call's words name first is told.
func TestMoveFirstError(t *testing.T) {
	l := many(most)
	l[3].Epoch = lastEpoch
	r := of(t, l...)
	for _, x := range [][2]string{{even(3), even(2)}, {odd(3), odd(3)}, {key(longKey + 1), ""}, {"", key(longKey + 1)}} {
		for _, shard := range []int{-1, lastShard + 1, 2} {
			refused(t, r, api.ErrRange, 0, x[0], x[1], shard)
		}
	}
	for _, x := range [][2]string{{odd(3), odd(4)}, {even(3), even(4)}, {even(2), even(3)}, {even(7), even(8)}, {"", ""}} {
		for _, shard := range []int{-7, -1, lastShard + 1, 9} {
			refused(t, r, api.ErrArg, shard, x[0], x[1], shard)
		}
	}
	for _, x := range [][2]string{{odd(3), odd(4)}, {even(3), even(4)}, {even(2), even(3)}, {odd(3), even(3)}, {even(3), odd(4)}, {even(3), even(3) + "\x00"}, {even(0), ""}} {
		refused(t, r, api.ErrArg, -1, x[0], x[1], 2)
	}
	refused(t, r, api.ErrFull, most+1, odd(2), even(2), 2)
	refused(t, r, api.ErrFull, most+1, even(2), odd(3), 2)
	refused(t, r, api.ErrFull, most+2, even(4), even(5), 2)
	move(t, r, odd(4), odd(6), 2)
}

// inRange tells whether a key is in a range, as layer 7 has it.
func inRange(k, from, to string) bool { return k >= from && (to == "" || k < to) }

// ownerBy is a key's piece, gone through one by one.
func ownerBy(l []api.Piece, k string) api.Piece {
	var owner api.Piece
	for _, p := range l {
		if p.From <= k {
			owner = p
		}
	}
	return owner
}

// cutBy are the keys at which pieces begin when a range is cut.
func cutBy(l []api.Piece, from, to string) []string {
	froms := []string{from}
	if to != "" {
		froms = append(froms, to)
	}
	for _, p := range l {
		froms = append(froms, p.From)
	}
	slices.Sort(froms)
	return slices.Compact(froms)
}

// movedBy are the pieces of which a range is moved, told from each one's beginning alone.
func movedBy(l []api.Piece, from, to string, shard int) []api.Piece {
	var out []api.Piece
	for _, begin := range cutBy(l, from, to) {
		p := ownerBy(l, begin)
		p.From = begin
		if inRange(begin, from, to) {
			p.Shard = shard
			p.Epoch++
		}
		out = append(out, p)
	}
	return out
}

// oneBy is the piece that a range lies in, told from the keys of the range that pieces begin at.
func oneBy(l []api.Piece, from, to string) (api.Piece, bool) {
	if !rangeBy(from, to) {
		return api.Piece{}, false
	}
	for _, p := range l {
		if p.From > from && inRange(p.From, from, to) {
			return api.Piece{}, false
		}
	}
	return ownerBy(l, from), true
}

func rangeBy(from, to string) bool {
	if len(from) > longKey || len(to) > longKey {
		return false
	}
	return to == "" || from < to
}

// toldBy is what a Move answers, by the chapter's words: the error, and where.
func toldBy(l []api.Piece, from, to string, shard int) (api.Errno, int) {
	if !rangeBy(from, to) {
		return api.ErrRange, 0
	}
	if shard < 0 || shard > lastShard {
		return api.ErrArg, shard
	}
	for _, begin := range cutBy(l, from, to) {
		if inRange(begin, from, to) && ownerBy(l, begin).Epoch == lastEpoch {
			return api.ErrArg, -1
		}
	}
	if n := len(cutBy(l, from, to)); n > most {
		return api.ErrFull, n
	}
	return api.OK, 0
}

// sameBut holds that each key's shard and epoch is what it was, but those of the range, which have that shard, and an epoch one more.
func sameBut(t *testing.T, had, r *route.Route, from, to string, shard int, keys []string) {
	t.Helper()
	for _, k := range keys {
		was, is := had.Owner(k), r.Owner(k)
		want := api.Piece{From: is.From, Shard: was.Shard, Epoch: was.Epoch}
		if inRange(k, from, to) {
			want.Shard, want.Epoch = shard, was.Epoch+1
		}
		if is != want || is.From > k || is.From < was.From {
			t.Errorf("behind Move(%q, %q, %d) the owner of %q is %v, which was %v", from, to, shard, k, is, was)
		}
	}
}

// P9.1, P9.2, P9.3: of all routes whose pieces begin at some of a few keys, all moves of ranges between these keys are as the chapter says, for each key.
func TestAllOfAFew(t *testing.T) {
	froms := []string{"b", "b\x00", "d", "dd"}
	keys := []string{"", "\x00", "a", "b", "b\x00", "b\x00\x00", "c", "d", "d\xff", "dc", "dd", "ddd", "e", "\xff", key(longKey + 1)}
	for some := range 1 << len(froms) {
		l := rows{{"", 0, 4}}.pieces()
		for i, from := range froms {
			if some>>i&1 == 1 {
				l = append(l, api.Piece{From: from, Shard: i % 3, Epoch: int64(9 * i)})
				l[len(l)-1].Epoch++
			}
		}
		had := of(t, l...)
		for _, from := range keys {
			for _, to := range keys {
				if p, is := had.One(from, to); !same(p, is)(oneBy(l, from, to)) {
					t.Errorf("One(%q, %q) of %v is %v, %v", from, to, l, p, is)
				}
				r := of(t, l...)
				if e, at := toldBy(l, from, to, 3); e != api.OK {
					refused(t, r, e, at, from, to, 3)
					continue
				}
				move(t, r, from, to, 3)
				has(t, r, movedBy(l, from, to, 3))
				sameBut(t, had, r, from, to, 3, keys)
			}
		}
	}
}

// same holds two answers of One against each other.
func same(p api.Piece, is bool) func(api.Piece, bool) bool {
	return func(want api.Piece, wanted bool) bool { return p == want && is == wanted }
}

// dice are numbers that follow from where they begin.
type dice uint32

func (d *dice) roll(below int) int {
	*d = *d*1664525 + 1013904223
	return int(*d>>8) % below
}

// bound is one of so many keys, or now and then the empty one, or one that is long.
func (d *dice) bound(among int) string {
	switch d.roll(12) {
	case 0:
		return ""
	case 1:
		return key(longKey + d.roll(2))
	}
	return fmt.Sprintf("%03d", d.roll(among))
}

// P9.1, P9.2, P9.3: whatever is moved, in whichever order, the pieces are what they are by the chapter's words; of no key the epoch falls, and it is one more for each move of it.
func TestWhateverComes(t *testing.T) {
	met := map[api.Errno]int{}
	for _, c := range []struct {
		among int
		last  int64
	}{{4, 1}, {12, 1}, {40, 1}, {900, 1}, {12, lastEpoch - 9}, {40, lastEpoch - 30}} {
		d, l := dice(c.among), rows{{"", 0, c.last}, {"005", 1, c.last}, {"008", 2, 1}}.pieces()
		r := of(t, l...)
		moves := map[string]int64{"": c.last, "000": c.last, "003": c.last, "005": c.last, "007": c.last, "008": 1, "010": 1, "030": 1, "500": 1, "\xff": 1}
		for step := range 600 {
			from, to, shard := d.bound(c.among), d.bound(c.among), d.roll(lastShard+3)-1
			if p, is := r.One(from, to); !same(p, is)(oneBy(l, from, to)) {
				t.Fatalf("step %d: One(%q, %q) is %v, %v", step, from, to, p, is)
			}
			e, at := toldBy(l, from, to, shard)
			met[e]++
			if e != api.OK {
				refused(t, r, e, at, from, to, shard)
				continue
			}
			l = movedBy(l, from, to, shard)
			move(t, r, from, to, shard)
			has(t, r, l)
			for k := range moves {
				if inRange(k, from, to) {
					moves[k]++
				}
				if got := r.Owner(k); got.Epoch != moves[k] || got != ownerBy(l, k) {
					t.Fatalf("step %d: Owner(%q) is %v behind %d moves", step, k, got, moves[k])
				}
			}
		}
	}
	if met[api.OK] < 500 || met[api.ErrArg] < 100 || met[api.ErrRange] < 100 || met[api.ErrFull] < 100 {
		t.Errorf("%v tells too little", met)
	}
}

// P9.2: pieces alike side by side stay two, and a range that is moved there and back has its shard again, of an epoch two more.
func TestMoveThereAndBack(t *testing.T) {
	r := of(t, api.Piece{Shard: 1, Epoch: 1})
	move(t, r, "b", "d", 2)
	move(t, r, "d", "f", 2)
	has(t, r, rows{{"", 1, 1}, {"b", 2, 2}, {"d", 2, 2}, {"f", 1, 1}}.pieces())
	move(t, r, "b", "f", 1)
	has(t, r, rows{{"", 1, 1}, {"b", 1, 3}, {"d", 1, 3}, {"f", 1, 1}}.pieces())
	move(t, r, "c", "e", 1)
	has(t, r, rows{{"", 1, 1}, {"b", 1, 3}, {"c", 1, 4}, {"d", 1, 4}, {"e", 1, 3}, {"f", 1, 1}}.pieces())
}

// P9.1: Of takes what Pieces gives, and that does the same from then on.
func TestOfPieces(t *testing.T) {
	r := of(t, four()...)
	move(t, r, "a", "e", 2)
	other := of(t, r.Pieces()...)
	move(t, r, "d", "", 1)
	move(t, other, "d", "", 1)
	has(t, other, r.Pieces())
}

// P3: routes are their own: what is moved in one is not moved in another, even of the same list.
func TestRoutesOfTheirOwn(t *testing.T) {
	l := four()
	one, other := of(t, l...), of(t, l...)
	move(t, one, "a", "e", 2)
	has(t, other, four())
	move(t, other, "f", "", 0)
	has(t, one, rows{{"", 0, 1}, {"a", 2, 2}, {"b", 2, 6}, {"d", 2, 4}, {"e", 0, 3}, {"f", 3, 7}}.pieces())
	has(t, other, rows{{"", 0, 1}, {"b", 1, 5}, {"d", 0, 3}, {"f", 0, 8}}.pieces())
}

// P3: a list that was handed in is not changed, nor its spare room, and not kept: whoever handed it in may change it then.
func TestListsThatAreHandedIn(t *testing.T) {
	whole := append(four(), api.Piece{From: "spare"}, api.Piece{From: "room"}, api.Piece{From: "more"})
	given := slices.Clone(whole)
	r := of(t, given[:4]...)
	move(t, r, "", "", 3)
	move(t, r, "a", "c", 1)
	want := rows{{"", 3, 2}, {"a", 1, 3}, {"b", 1, 7}, {"c", 3, 6}, {"d", 3, 4}, {"f", 3, 8}}.pieces()
	has(t, r, want)
	if !slices.Equal(given, whole) {
		t.Errorf("a list that was handed in is changed: %v", given)
	}
	for i := range given {
		given[i] = api.Piece{From: "changed", Shard: 9}
	}
	has(t, r, want)
	given = slices.Clone(whole)
	r = of(t, given[:4]...)
	for i := range given {
		given[i] = api.Piece{From: "changed", Shard: 9}
	}
	has(t, r, four())
	given = make([]api.Piece, most, 2*most)
	none(t, api.ErrArg, 0, given)
	if slices.ContainsFunc(given[:2*most], func(p api.Piece) bool { return p != api.Piece{} }) {
		t.Error("a list that is refused is changed")
	}
}

// P3: a list that came out may change then, its spare room too; the pieces, and other answers, stay as they are, and so does it, whatever is moved then.
func TestListsThatComeOut(t *testing.T) {
	for _, n := range []int{1, 2, 3, 5, 9, most - 2, most} {
		l := many(n)
		r := of(t, l...)
		first, second := r.Pieces(), r.Pieces()
		for i := range first[:cap(first)] {
			first[:cap(first)][i] = api.Piece{From: "changed", Shard: 9}
		}
		_ = append(first, api.Piece{From: "more"})
		has(t, r, l)
		move(t, r, "", "", 3)
		if n <= most-2 {
			move(t, r, "\x00", "\x01", 0)
		}
		if !slices.Equal(second, l) {
			t.Errorf("a change is seen in an answer: %v", second)
		}
		third := r.Pieces()
		has(t, r, third)
		_ = append(third, api.Piece{From: "more"})
		for i := range third {
			third[i].Epoch = -1
		}
		if r.Owner("").Epoch != 2 || r.Owner("\xff").Shard != 3 {
			t.Error("a change of an answer behind a Move is seen in the route")
		}
	}
}
