package cert_test

import (
	"encoding/binary"
	"errors"
	"math"
	"slices"
	"testing"

	"cohort/api"
	"cohort/cert"
	"cohort/fault"
	"cohort/seals"
)

const (
	last = 3 * api.MaxF // the last place in a group
	most = 1<<31 - 1    // the greatest number that Get reads
)

// The errors as they are told behind their steps.
const (
	many = ": cohort: error 2"
	end  = ": cohort: error 21"
	left = ": cohort: error 22"
	sign = ": cohort: error 23"
	few  = ": cohort: error 51"
	who  = ": cohort: error 52"
	seal = ": cohort: error 53"
)

// far are numbers far off; some of them are small ones again once they are multiplied, or cut short.
func far() []int {
	return []int{
		math.MinInt, math.MinInt + 1, math.MaxInt, math.MaxInt - 1, 1 << 31, 1 << 32, 1<<32 + 1, 1<<32 + 7, 1 << 60,
		-1 << 31, -1 << 32, -1<<32 + 1, -1 << 60,
	}
}

// signs has members of a group sign a digest.
func signs(t *testing.T, s *seals.Seals, group, digest int, places ...int) {
	t.Helper()
	for _, i := range places {
		if err := s.Sign(100+16*group+i, digest); err != nil {
			t.Fatal(group, digest, i, err)
		}
	}
}

// world is seals of three groups, of several digests, and of clients.
func world(t *testing.T) *seals.Seals {
	t.Helper()
	s := seals.New()
	signs(t, s, 1, 7, 3, 0, 2)
	signs(t, s, 0, 7, 1, 9)
	signs(t, s, 0, 0, 4)
	signs(t, s, 7, 0, 9, 8, 7, 6, 5, 4, 3, 2, 1, 0)
	signs(t, s, 1, most+1, 5)
	for i := range api.MaxClients {
		if err := s.Sign(i, 7); err != nil {
			t.Fatal(err)
		}
	}
	return s
}

// made holds a certificate that is made against its signers, or the error against its text: with one there is nothing else.
func made(t *testing.T, s *seals.Seals, group, digest, need int, signers []int, text string) {
	t.Helper()
	want := api.Cert{Group: group, Digest: digest, Signers: signers}
	if text != "" {
		want = api.Cert{}
	}
	c, err := cert.Make(s, group, digest, need)
	if !alike(c, want) || fault.Text(err) != text || (err == nil) != (text == "") {
		t.Errorf("of %d, %d, for %d: %v, error %q, not %v, %q", group, digest, need, c, fault.Text(err), want, text)
	}
}

// checked holds what is told of a certificate against its text.
func checked(t *testing.T, s *seals.Seals, c api.Cert, need int, text string) {
	t.Helper()
	if err := cert.Check(s, c, need); fault.Text(err) != text || (err == nil) != (text == "") {
		t.Errorf("%v for %d: %q, not %q", c, need, fault.Text(err), text)
	}
}

func alike(c, d api.Cert) bool {
	return c.Group == d.Group && c.Digest == d.Digest && slices.Equal(c.Signers, d.Signers)
}

// nums are numbers as bytes, and row a count and numbers, so that no test leans on the program's own way to write them.
func nums(l ...int) []byte {
	var b []byte
	for _, n := range l {
		b = binary.BigEndian.AppendUint64(b, uint64(n))
	}
	return b
}

func row(l ...int) []byte {
	return append(binary.BigEndian.AppendUint32(nil, uint32(len(l))), nums(l...)...)
}

// written is a certificate's bytes as the chapter tells them.
func written(group, digest int, signers ...int) []byte {
	return slices.Concat(nums(group, digest), row(signers...))
}

// got holds what bytes are read as against a certificate, or the error against its text.
func got(t *testing.T, b []byte, want api.Cert, text string) {
	t.Helper()
	c, err := cert.Get(b)
	if !alike(c, want) || fault.Text(err) != text || (err == nil) != (text == "") {
		t.Errorf("%d bytes %x: %v, error %q, not %v, %q", len(b), b[:min(len(b), 60)], c, fault.Text(err), want, text)
	}
}

// refused holds that bytes are no certificate, and what is told of them.
func refused(t *testing.T, b []byte, text string) {
	t.Helper()
	got(t, b, api.Cert{}, text)
}

// P5.1 (E1): the first of those who signed, as many as are needed; too few, and a need below 1, are told by how many signed.
func TestMake(t *testing.T) {
	s := world(t)
	all := []int{0, 1, 2, 3, 4, 5, 6, 7, 8, 9}
	for _, x := range []struct {
		group, digest, need int
		signers             []int
		text                string
	}{
		{1, 7, 1, []int{0}, ""},
		{1, 7, 2, []int{0, 2}, ""},
		{1, 7, 3, []int{0, 2, 3}, ""},
		{1, 7, 4, nil, "make 3" + few},
		{1, 7, 0, nil, "make 3" + few},
		{1, 7, -1, nil, "make 3" + few},
		{1, 7, math.MinInt, nil, "make 3" + few},
		{1, 7, math.MaxInt, nil, "make 3" + few},
		{0, 7, 1, []int{1}, ""},
		{0, 7, 2, []int{1, 9}, ""},
		{0, 7, 3, nil, "make 2" + few},
		{0, 0, 1, []int{4}, ""},
		{7, 0, 1, []int{0}, ""},
		{7, 0, 7, all[:7], ""},
		{7, 0, last + 1, all, ""},
		{7, 0, last + 2, nil, "make 10" + few},
		{7, 7, 1, nil, "make 0" + few},
		{7, 7, 0, nil, "make 0" + few},
		{1, 8, 1, nil, "make 0" + few},
		{1, 8, 0, nil, "make 0" + few},
		{1, 8, -3, nil, "make 0" + few},
		{1, most + 1, 1, []int{5}, ""},
		{1, -1, 1, nil, "make 0" + few},
		{2, 7, 1, nil, "make 0" + few},
		{-1, 7, 1, nil, "make 0" + few},
		{-1, 7, 0, nil, "make 0" + few},
		{api.MaxGroups, 7, 1, nil, "make 0" + few},
		{api.MaxGroups, 0, -1, nil, "make 0" + few},
	} {
		made(t, s, x.group, x.digest, x.need, x.signers, x.text)
	}
}

// P5.1 (E1), P1: whatever is asked for, there is no certificate of what nobody signed.
func TestMakeOfWrongThings(t *testing.T) {
	s := world(t)
	for _, n := range far() {
		for _, need := range append(far(), -1, 0, 1, 2) {
			made(t, s, n, 7, need, nil, "make 0"+few)
			made(t, s, n, n, need, nil, "make 0"+few)
			made(t, s, 7, math.MaxInt-7, need, nil, "make 0"+few)
			if n != most+1 {
				made(t, s, 1, n, need, nil, "make 0"+few)
			}
		}
		made(t, s, 1, 7, n, nil, "make 3"+few)
		made(t, seals.New(), 1, 7, n, nil, "make 0"+few)
	}
}

// P5.1 (E2): the chapter's examples.
func TestTheChaptersExamples(t *testing.T) {
	s := seals.New()
	signs(t, s, 2, 5, 0, 1)
	checked(t, s, api.Cert{Group: 2, Digest: 5, Signers: []int{0, 1, 1}}, 3, "signer 2"+who)
	checked(t, s, api.Cert{Group: 2, Digest: 5, Signers: []int{0, 1}}, 3, "check 2"+few)
}

// P5.1 (E2): just as many as are needed will do, and more; fewer, and a need below 1, are told by how many there are.
func TestCheckOfHowMany(t *testing.T) {
	s := world(t)
	for _, x := range []struct {
		signers []int
		need    int
		text    string
	}{
		{[]int{0, 2, 3}, 3, ""},
		{[]int{0, 2, 3}, 2, ""},
		{[]int{0, 2, 3}, 1, ""},
		{[]int{0, 2, 3}, 4, "check 3" + few},
		{[]int{0, 2, 3}, 0, "check 3" + few},
		{[]int{0, 2, 3}, -1, "check 3" + few},
		{[]int{0, 2, 3}, math.MaxInt, "check 3" + few},
		{[]int{0, 2, 3}, math.MinInt, "check 3" + few},
		{[]int{2, 3}, 2, ""},
		{[]int{3}, 1, ""},
		{[]int{3}, 2, "check 1" + few},
		{[]int{0}, 0, "check 1" + few},
		{nil, 1, "check 0" + few},
		{nil, 0, "check 0" + few},
		{nil, -1, "check 0" + few},
		{[]int{}, 1, "check 0" + few},
	} {
		checked(t, s, api.Cert{Group: 1, Digest: 7, Signers: x.signers}, x.need, x.text)
	}
	checked(t, s, api.Cert{Group: 7, Signers: []int{0, 1, 2, 3, 4, 5, 6, 7, 8, 9}}, last+1, "")
	checked(t, s, api.Cert{Group: 7, Signers: []int{0, 1, 2, 3, 4, 5, 6, 7, 8, 9}}, last+2, "check 10"+few)
	checked(t, s, api.Cert{}, 1, "check 0"+few)
}

// P5.1 (E2): who is no member, or not above the one ahead, is told ahead of a seal that is not there; whoever comes first is told first, and how many there are behind them all.
func TestCheckOfSigners(t *testing.T) {
	s := world(t)
	for _, x := range []struct {
		group, digest int
		signers       []int
		need          int
		text          string
	}{
		{1, 7, []int{-1}, 1, "signer 0" + who},
		{1, 7, []int{-1, 0, 2}, 3, "signer 0" + who},
		{1, 7, []int{0, -1}, 2, "signer 1" + who},
		{0, 7, []int{1, last}, 2, ""},
		{0, 7, []int{1, last + 1}, 2, "signer 1" + who},
		{0, 7, []int{last + 1}, 1, "signer 0" + who},
		{1, 7, []int{0, 2, last + 1}, 3, "signer 2" + who},
		{1, 7, []int{16}, 1, "signer 0" + who},            // the next group's first would have that number
		{1, 7, []int{-16 + 1}, 1, "signer 0" + who},       // one of the group ahead
		{1, 7, []int{-100 - 16 + 3}, 1, "signer 0" + who}, // a client
		{1, 7, []int{116}, 1, "signer 0" + who},           // a principal's number is no place
		{1, 7, []int{0, 0}, 1, "signer 1" + who},
		{1, 7, []int{0, 2, 2}, 2, "signer 2" + who},
		{1, 7, []int{0, 2, 3, 3}, 3, "signer 3" + who},
		{1, 7, []int{2, 0, 3}, 3, "signer 1" + who},
		{1, 7, []int{0, 3, 2}, 2, "signer 2" + who},
		{1, 7, []int{1}, 1, "signer 0" + seal},
		{1, 7, []int{last}, 1, "signer 0" + seal},
		{1, 7, []int{0, 1, 2}, 3, "signer 1" + seal},
		{1, 7, []int{0, 2, 3, 4}, 3, "signer 3" + seal}, // enough did, but one of them did not
		{7, 7, []int{0}, 1, "signer 0" + seal},          // it signed another digest
		{2, 7, []int{0, 2, 3}, 3, "signer 0" + seal},    // another group's did
		{1, 8, []int{0, 2, 3}, 3, "signer 0" + seal},
		{1, -1, []int{0}, 1, "signer 0" + seal},
		{1, most + 1, []int{5}, 1, ""},
		{0, 0, []int{4}, 1, ""},
		{7, 0, []int{0, last}, 2, ""},
		{-1, 7, []int{0}, 1, "signer 0" + who},
		{api.MaxGroups, 7, []int{0}, 1, "signer 0" + who},
		{-1, 7, nil, 1, "check 0" + few},
		{api.MaxGroups, 7, nil, 0, "check 0" + few},

		{1, 7, []int{3, 1}, 1, "signer 1" + who},     // neither above the one ahead, nor did it sign
		{1, 7, []int{1, 0}, 1, "signer 0" + seal},    // the second is not above it, but comes later
		{1, 7, []int{0, 4, 4}, 1, "signer 1" + seal}, // it comes twice, but did not sign the first time
		{1, 7, []int{1, -1}, 1, "signer 0" + seal},   // the second is no member, but comes later
		{1, 7, []int{-1, 1}, 1, "signer 0" + who},    // the second did not sign, but comes later
		{1, 7, []int{2, 2}, 3, "signer 1" + who},     // and they are too few
		{1, 7, []int{1}, 2, "signer 0" + seal},       // and they are too few
		{1, 7, []int{-1}, 0, "signer 0" + who},       // and the need is below 1
		{1, 7, []int{0, 1}, -1, "signer 1" + seal},   // and the need is below 1
		{-1, -1, []int{-1}, 0, "signer 0" + who},     // nothing of it is right
		{api.MaxGroups, 7, []int{0, 0}, 9, "signer 0" + who},
	} {
		checked(t, s, api.Cert{Group: x.group, Digest: x.digest, Signers: x.signers}, x.need, x.text)
	}
}

// P5.1 (E2), P1: a group and a place that are far off are nobody's; a digest that is far off nobody signed; many signers are as few.
func TestCheckOfWrongThings(t *testing.T) {
	s := world(t)
	for _, n := range far() {
		checked(t, s, api.Cert{Group: n, Digest: 7, Signers: []int{0, 2, 3}}, 3, "signer 0"+who)
		checked(t, s, api.Cert{Group: 1, Digest: 7, Signers: []int{n}}, 1, "signer 0"+who)
		checked(t, s, api.Cert{Group: 1, Digest: 7, Signers: []int{0, 2, 3, n}}, 3, "signer 3"+who)
		checked(t, s, api.Cert{Group: n, Digest: n, Signers: []int{n, n}}, n, "signer 0"+who)
		checked(t, s, api.Cert{Group: 1, Digest: n, Signers: []int{0, 2, 3}}, 3, "signer 0"+seal)
	}
	signers := make([]int, 9*api.MaxRow)
	checked(t, s, api.Cert{Group: 1, Digest: 7, Signers: signers}, 1, "signer 1"+who)
}

// An error is one step of a number, which errors.Is finds too; of Put and Get another one is around it.
func TestErrorsAreNumbersInSteps(t *testing.T) {
	s := world(t)
	_, tooFew := cert.Make(s, 1, 7, 4)
	_, tooMany := cert.Put(api.Cert{Signers: make([]int, api.MaxRow+1)})
	_, below := cert.Get(written(0, 0, 5, -1))
	for _, x := range []struct {
		err  error
		code api.Errno
		want []api.Step
	}{
		{tooFew, api.ErrFew, []api.Step{{Where: "make", At: 3}}},
		{cert.Check(s, api.Cert{Group: 1, Digest: 7, Signers: []int{0}}, 2), api.ErrFew, []api.Step{{Where: "check", At: 1}}},
		{cert.Check(s, api.Cert{Group: 1, Digest: 7, Signers: []int{0, 0}}, 2), api.ErrWho, []api.Step{{Where: "signer", At: 1}}},
		{cert.Check(s, api.Cert{Group: 1, Digest: 7, Signers: []int{0, 1}}, 2), api.ErrSeal, []api.Step{{Where: "signer", At: 1}}},
		{tooMany, api.ErrTooMany, []api.Step{{Where: "cert", At: 0}, {Where: "write", At: 16}}},
		{below, api.ErrSign, []api.Step{{Where: "cert", At: 0}, {Where: "signer", At: 1}}},
	} {
		if fault.Code(x.err) != x.code || !errors.Is(x.err, x.code) || !slices.Equal(fault.Trail(x.err), x.want) {
			t.Errorf("%q is not %d at %v", fault.Text(x.err), x.code, x.want)
		}
	}
}

// P5.2: whoever signed, what is made is right for as many as were asked for, and for no more; it is made just where so many signed.
func TestWhatIsMadeIsRight(t *testing.T) {
	for _, group := range []int{0, 3, api.MaxGroups - 1} {
		for mask := range 1 << (last + 1) {
			s, digest, signed := seals.New(), mask%5, 0
			for i := range last + 1 {
				if mask>>i&1 == 1 {
					signs(t, s, group, digest, i)
					signed++
				}
			}
			for need := -1; need <= last+2; need++ {
				c, err := cert.Make(s, group, digest, need)
				if may := need >= 1 && need <= signed; (err == nil) != may {
					t.Fatalf("%d signed, %d needed: %v", signed, need, err)
				}
				if err != nil {
					continue
				}
				if c.Group != group || c.Digest != digest || len(c.Signers) != need {
					t.Fatalf("%d needed: %v", need, c)
				}
				checked(t, s, c, need, "")
				checked(t, s, c, 1, "")
				if cert.Check(s, c, need+1) == nil {
					t.Fatalf("%v is right for %d", c, need+1)
				}
			}
		}
	}
}

// each calls do with all rows of up to so many places, from one below the first to one behind the last.
func each(many int, l []int, do func([]int)) {
	do(l)
	if many == 0 {
		return
	}
	for place := -1; place <= last+1; place++ {
		each(many-1, append(slices.Clone(l), place), do)
	}
}

// P5.2: of all rows of signers just those are right for so many that are so many, all unlike and rising, who signed.
func TestWhatIsRightHasSoManyWhoSigned(t *testing.T) {
	s := seals.New()
	signed := []int{0, 1, 4, 6, last}
	signs(t, s, 5, 3, signed...)
	signs(t, s, 5, 4, 2, 3, 5)
	signs(t, s, 6, 3, 2, 3, 5)
	right := 0
	each(4, nil, func(l []int) {
		good := true
		for i, place := range l {
			good = good && slices.Contains(signed, place) && (i == 0 || l[i-1] < place)
		}
		for need := -1; need <= 5; need++ {
			want := good && need >= 1 && len(l) >= need
			if err := cert.Check(s, api.Cert{Group: 5, Digest: 3, Signers: l}, need); (err == nil) != want {
				t.Fatalf("%v for %d: %v", l, need, err)
			}
			if want {
				right++
			}
		}
	})
	// Of 5 who signed there are 5, 10, 10 and 5 rows of one to four, each right for as many needs as it is long.
	if right != 5*1+10*2+10*3+5*4 {
		t.Errorf("%d are right", right)
	}
}

// P5.1 (E3): two numbers, a count and the signers, whatever they are.
func TestPut(t *testing.T) {
	full := make([]int, api.MaxRow)
	for i := range full {
		full[i] = i * i
	}
	for name, x := range map[string]struct {
		c    api.Cert
		want []byte
	}{
		"a zero one":  {api.Cert{}, make([]byte, 20)},
		"one spelt":   {api.Cert{Group: 1, Digest: 0x0203, Signers: []int{4}}, []byte("\x00\x00\x00\x00\x00\x00\x00\x01\x00\x00\x00\x00\x00\x00\x02\x03\x00\x00\x00\x01\x00\x00\x00\x00\x00\x00\x00\x04")},
		"no signers":  {api.Cert{Group: 1, Digest: 7, Signers: []int{}}, written(1, 7)},
		"some":        {api.Cert{Group: 1, Digest: 7, Signers: []int{0, 2, 3}}, written(1, 7, 0, 2, 3)},
		"none rising": {api.Cert{Group: 7, Digest: most, Signers: []int{3, 3, 0}}, written(7, most, 3, 3, 0)},
		"below 0":     {api.Cert{Group: -1, Digest: -2, Signers: []int{-3}}, written(-1, -2, -3)},
		"far off":     {api.Cert{Group: math.MinInt, Digest: math.MaxInt, Signers: []int{math.MaxInt, math.MinInt}}, written(math.MinInt, math.MaxInt, math.MaxInt, math.MinInt)},
		"MaxRow":      {api.Cert{Group: 2, Digest: 3, Signers: full}, written(2, 3, full...)},
	} {
		if b, err := cert.Put(x.c); !slices.Equal(b, x.want) || err != nil {
			t.Errorf("%s: %x, error %v", name, b[:min(len(b), 60)], err)
		}
	}
	for _, long := range []int{api.MaxRow + 1, api.MaxRow + 2, 9 * api.MaxRow} {
		if b, err := cert.Put(api.Cert{Group: 1, Digest: 7, Signers: make([]int, long)}); len(b) != 0 || fault.Text(err) != "cert 0: write 16"+many {
			t.Errorf("%d signers: %d bytes, error %q", long, len(b), fault.Text(err))
		}
	}
}

// P5.1 (E3): a group, a digest and signers from 0 to 2^31 - 1 are read, whether they are right or not.
func TestGet(t *testing.T) {
	full := slices.Repeat([]int{most, 0}, api.MaxRow/2)
	for _, c := range []api.Cert{
		{},
		{Group: 1, Digest: 7, Signers: []int{0, 2, 3}},
		{Group: most, Digest: 0},
		{Group: 0, Digest: most},
		{Group: most, Digest: most, Signers: []int{most}},
		{Group: 8, Digest: 1 << 20, Signers: []int{0, last, last + 1, most, most - 1, 0, 0}},
		{Group: 3, Digest: 4, Signers: full},
	} {
		got(t, written(c.Group, c.Digest, c.Signers...), c, "")
	}
}

// P5.1 (E3): a number that may not be, in each place: what is below 0, and what is too great, at its edge and far off.
func TestGetOfNumbersThatMayNotBe(t *testing.T) {
	wrong := map[int]string{
		-1: sign, -2: sign, -1 << 31: sign, -1 << 32: sign, -1<<32 + 1: sign, math.MinInt: sign,
		most + 1: many, most + 2: many, 1<<32 - 1: many, 1 << 32: many, 1<<32 + 1: many, math.MaxInt: many,
	}
	for n, text := range wrong {
		refused(t, written(n, 7, 0, 1), "cert 0: int 0"+text)
		refused(t, written(1, n, 0, 1), "cert 0: int 8"+text)
		refused(t, written(1, 7, n), "cert 0: signer 0"+text)
		refused(t, written(1, 7, 0, n, 3), "cert 0: signer 1"+text)
		refused(t, written(1, 7, 0, 0, n), "cert 0: signer 2"+text)
		full := make([]int, api.MaxRow)
		full[api.MaxRow-1] = n
		refused(t, written(1, 7, full...), "cert 0: signer 1023"+text)
	}
}

// P5.1 (E3): bytes that end early, anywhere, and bytes that are left.
func TestGetOfBytesThatEnd(t *testing.T) {
	b := written(1, 7, 0, 2, 3)
	for i := range b {
		where := "nums 16"
		if i < 16 {
			where = "int 8"
		}
		if i < 8 {
			where = "int 0"
		}
		refused(t, b[:i:i], "cert 0: "+where+end)
		refused(t, b[:i], "cert 0: "+where+end)
	}
	refused(t, nil, "cert 0: int 0"+end)
	refused(t, append(b[:len(b):len(b)], 0), "cert 0: end 44"+left)
	refused(t, append(b[:len(b):len(b)], b...), "cert 0: end 44"+left)
	refused(t, append(written(1, 7), 9), "cert 0: end 20"+left)
}

// P5.1 (E3): as many signers as a row may have, and one more.
func TestGetOfTooManySigners(t *testing.T) {
	full := slices.Repeat([]int{2}, api.MaxRow)
	got(t, written(1, 7, full...), api.Cert{Group: 1, Digest: 7, Signers: full}, "")
	refused(t, written(1, 7, append(full, 2)...), "cert 0: nums 16"+many)
	refused(t, append(nums(1, 7), 0, 0, 4, 1), "cert 0: nums 16"+many)
	refused(t, append(nums(1, 7), 0, 0, 4, 0), "cert 0: nums 16"+end)
	refused(t, append(nums(1, 7), 255, 255, 255, 255), "cert 0: nums 16"+many)
	refused(t, append(nums(1, 7), 128, 0, 0, 0), "cert 0: nums 16"+many)
}

// P5.1 (E3), P2: the group is told ahead of the digest, both ahead of what stands behind them; the signers behind all that the Reader says.
func TestWhichErrorGetTells(t *testing.T) {
	refused(t, written(-1, -1, -1), "cert 0: int 0"+sign)
	refused(t, written(-1, most+1), "cert 0: int 0"+sign)
	refused(t, written(most+1, -1, -1), "cert 0: int 0"+many)
	refused(t, nums(most+1), "cert 0: int 0"+many)
	refused(t, append(nums(-1), 1), "cert 0: int 0"+sign)
	refused(t, written(1, -1, -1), "cert 0: int 8"+sign)
	refused(t, nums(1, most+1), "cert 0: int 8"+many)
	refused(t, append(nums(1, -1), 255, 255, 255, 255), "cert 0: int 8"+sign)
	refused(t, append(written(-1, 7, 0), 0), "cert 0: int 0"+sign)
	refused(t, append(written(1, -1, 0), 0), "cert 0: int 8"+sign)

	refused(t, append(written(1, 7, -1), 0), "cert 0: end 28"+left)
	refused(t, append(written(1, 7, most+1, -1), 0), "cert 0: end 36"+left)
	refused(t, written(1, 7, -1, 0)[:35], "cert 0: nums 16"+end)
	refused(t, written(1, 7, slices.Repeat([]int{-1}, api.MaxRow+1)...), "cert 0: nums 16"+many)

	refused(t, written(1, 7, -1, most+1), "cert 0: signer 0"+sign)
	refused(t, written(1, 7, most+1, -1), "cert 0: signer 0"+many)
	refused(t, written(1, 7, 5, most+1, -1, 9), "cert 0: signer 1"+many)
	refused(t, written(1, 7, 5, 5, -1, most+1), "cert 0: signer 2"+sign)
}

// P5.3: what was put is got as it was, if its numbers may be; else it is told which may not.
func TestThereAndBack(t *testing.T) {
	edges := []int{0, 1, 7, 255, 256, 1 << 16, most - 1, most, -1, most + 1, math.MinInt, math.MaxInt}
	fits := func(n int) bool { return n >= 0 && n <= most }
	for _, group := range edges {
		for _, digest := range edges {
			for _, signer := range edges {
				for long := range 4 {
					c := api.Cert{Group: group, Digest: digest, Signers: slices.Repeat([]int{signer}, long)}
					b, err := cert.Put(c)
					if err != nil || len(b) != 20+8*long {
						t.Fatal(c, len(b), err)
					}
					d, err := cert.Get(b)
					if fits(group) && fits(digest) && (long == 0 || fits(signer)) {
						if err != nil || !alike(c, d) {
							t.Errorf("%v came back as %v, error %v", c, d, err)
						}
					} else if err == nil || !alike(d, api.Cert{}) {
						t.Errorf("%v came back as %v, error %v", c, d, err)
					}
				}
			}
		}
	}
	for long := range api.MaxRow + 1 {
		c := api.Cert{Group: long % 8, Digest: long, Signers: make([]int, long)}
		for i := range c.Signers {
			c.Signers[i] = i
		}
		b, err := cert.Put(c)
		if err != nil {
			t.Fatal(long, err)
		}
		got(t, b, c, "")
	}
}

// P5.3: what is got is put as it stood; what is made goes there and back, and is right then.
func TestBackAndThere(t *testing.T) {
	read := 0
	whole := written(1, 7, 0, 2)
	for at := range whole {
		for n := range 256 {
			b := slices.Clone(whole)
			b[at] = byte(n)
			c, err := cert.Get(b)
			if err != nil {
				continue
			}
			read++
			if again, err := cert.Put(c); err != nil || !slices.Equal(again, b) {
				t.Errorf("%x came back as %x, error %v", b, again, err)
			}
		}
	}
	// Of each of the four numbers the three lowest bytes may be any, the next one up to 127, and the four above it as they are; so the four of the count.
	if read != 4*(3*256+128+4)+4 {
		t.Errorf("%d were read", read)
	}
	s := world(t)
	for need := 1; need <= last+1; need++ {
		c, _ := cert.Make(s, 7, 0, need)
		b, _ := cert.Put(c)
		d, err := cert.Get(b)
		if err != nil || !alike(c, d) {
			t.Error(c, d, err)
		}
		checked(t, s, d, need, "")
	}
}

// spoil writes over a slice, its spare room too.
func spoil[T any](l []T, with T) {
	l = l[:cap(l)]
	for i := range l {
		l[i] = with
	}
}

// P3: the signers that Make answers may change then, their spare room too: the seals, and another answer, do not.
func TestSignersThatWereMadeMayChange(t *testing.T) {
	s := world(t)
	seen := s.Many()
	for need := 1; need <= last+1; need++ {
		first, _ := cert.Make(s, 7, 0, need)
		second, _ := cert.Make(s, 7, 0, need)
		want := slices.Clone(second.Signers)
		spoil(first.Signers, 77)
		_ = append(first.Signers, 88)
		if !slices.Equal(second.Signers, want) {
			t.Errorf("a change of one answer is seen in another: %v", second)
		}
		made(t, s, 7, 0, need, want, "")
	}
	if l := s.Who(7, 0); s.Many() != seen || !slices.Equal(l, []int{0, 1, 2, 3, 4, 5, 6, 7, 8, 9}) {
		t.Errorf("%d seals, %v signed", s.Many(), l)
	}
}

// P3: the signers that Get answers may change then, and the bytes that it read: neither is seen in the other.
func TestSignersThatWereGotMayChange(t *testing.T) {
	b := written(1, 7, 0, 2, 3)
	want := slices.Clone(b)
	first, _ := cert.Get(b)
	second, _ := cert.Get(b)
	spoil(first.Signers, 77)
	_ = append(first.Signers, 88)
	if !slices.Equal(b, want) || !slices.Equal(second.Signers, []int{0, 2, 3}) {
		t.Errorf("%x, %v", b, second)
	}
	spoil(b, 255)
	if !alike(second, api.Cert{Group: 1, Digest: 7, Signers: []int{0, 2, 3}}) {
		t.Errorf("the bytes' change is seen in %v", second)
	}
}

// P3: what is handed in is not changed, nor its spare room, and not kept.
func TestWhatIsHandedInStays(t *testing.T) {
	s := world(t)
	seen := s.Many()
	signers := []int{0, 2, 3, 55, 66}
	c := api.Cert{Group: 1, Digest: 7, Signers: signers[:3]}
	checked(t, s, c, 3, "")
	checked(t, s, c, 4, "check 3"+few)
	b, err := cert.Put(c)
	if err != nil || !slices.Equal(signers, []int{0, 2, 3, 55, 66}) || s.Many() != seen {
		t.Errorf("%v, %d seals, error %v", signers, s.Many(), err)
	}
	spoil(signers, 77)
	if !slices.Equal(b, written(1, 7, 0, 2, 3)) {
		t.Errorf("a change of the signers is seen in %x", b)
	}
	signers[0], signers[1], signers[2] = 0, 2, 3
	again, _ := cert.Put(c)
	spoil(b, 255)
	if !slices.Equal(again, written(1, 7, 0, 2, 3)) || !slices.Equal(c.Signers, []int{0, 2, 3}) {
		t.Errorf("a change of the bytes is seen: %x, %v", again, c)
	}
	room := append(written(1, 7, 0), "spare"...)
	if _, err := cert.Get(room[:28]); err != nil || string(room[28:]) != "spare" {
		t.Errorf("%x, error %v", room, err)
	}
}

// P3: what was answered hangs on the seals as they are: once one more signed, there is one more.
func TestSealsThatCome(t *testing.T) {
	s := seals.New()
	c := api.Cert{Group: 4, Digest: 9, Signers: []int{0, 1, 2}}
	for i, text := range []string{"signer 0" + seal, "signer 1" + seal, "signer 2" + seal, ""} {
		for range 2 {
			checked(t, s, c, 3, text)
			if d, err := cert.Make(s, 4, 9, 3); (err == nil) != (text == "") || alike(d, c) != (text == "") {
				t.Error(i, d, err)
			}
		}
		signs(t, s, 4, 9, i)
	}
}
