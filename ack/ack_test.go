package ack_test

import (
	"math"
	"slices"
	"strings"
	"testing"

	"folkmoot/ack"
	"folkmoot/api"
	"folkmoot/field"
	"folkmoot/hash"
	"folkmoot/key"
	"folkmoot/median"
	"folkmoot/sample"
	"folkmoot/stamp"
)

func TestWords(t *testing.T) {
	if got := ack.Words(77, 2); got != "|ack|000000000000004d|2" {
		t.Errorf("P1401: Words = %q", got)
	}
	if got := ack.Digest(77, -1); got != hash.Of("ack", "|ack|000000000000004d|-1") {
		t.Errorf("P1401: Digest = %x", got)
	}
}

func TestMake(t *testing.T) {
	s := sample.New(1, 3)
	c := s.Cert(sample.Cmd(0), 9)
	got, e := ack.Make(s.Key[2], 2, c)
	if e != api.OK || got.Cert != median.Digest(c) || got.Who != 2 || got.Sig.Leaf != 1 || ack.Valid(s.Keys, got) != api.OK {
		t.Errorf("P1401: Make = %v, %v", got, e)
	}
	if !key.Verify(s.Keys.Roots[2], got.Sig, ack.Digest(median.Digest(c), 2), 3) {
		t.Error("P1401: the ack does not sign its Digest")
	}
	if got, e := ack.Make(s.Key[2], 1, median.Cert{}); e != api.OK || got.Who != 1 {
		t.Errorf("P1401: Make looks at the certificate: %v", e)
	}
	s.Key[2].Skip(8)
	if got, e := ack.Make(s.Key[2], 2, c); e != api.ErrSpent || !same(got, ack.Ack{}) {
		t.Errorf("P1401: Make with a spent key = %v", e)
	}
	fresh, _ := key.New(2, 5, 1)
	if _, e := ack.Make(fresh, 2, c); e != api.ErrState {
		t.Errorf("P1401: Make without a reserved leaf = %v", e)
	}
}

func same(a, b ack.Ack) bool { return a.Cert == b.Cert && a.Who == b.Who && key.Same(a.Sig, b.Sig) }

func TestValid(t *testing.T) {
	s := sample.New(1, 3)
	good := s.Ack(2, s.Cert(sample.Cmd(0), 9))
	short := s.Keys
	short.Roots = short.Roots[:2]
	for i, c := range []struct {
		k      stamp.Keys
		change func(*ack.Ack)
		want   api.Errno
	}{
		{s.Keys, func(a *ack.Ack) {}, api.OK},
		{s.Keys, func(a *ack.Ack) { a.Who = 4 }, api.ErrArg},
		{s.Keys, func(a *ack.Ack) { a.Who = -1 }, api.ErrArg},
		{s.Keys, func(a *ack.Ack) { a.Who = 1 }, api.ErrSig},
		{s.Keys, func(a *ack.Ack) { a.Who, a.Sig.Who = 1, 1 }, api.ErrSig},
		{s.Keys, func(a *ack.Ack) { a.Sig.Who = 1 }, api.ErrSig},
		{s.Keys, func(a *ack.Ack) { a.Cert++ }, api.ErrSig},
		{s.Keys, func(a *ack.Ack) { a.Sig.One[3]++ }, api.ErrSig},
		{short, func(a *ack.Ack) {}, api.ErrSig},
	} {
		a := good
		c.change(&a)
		if e := ack.Valid(c.k, a); e != c.want {
			t.Errorf("P1401: case %d: %v, want %v", i, e, c.want)
		}
	}
}

func whos(s ack.Seq) []int { return field.Map(s.Acks, func(a ack.Ack) int { return a.Who }) }

func TestGather(t *testing.T) {
	s := sample.New(1, 4)
	c := s.Cert(sample.Cmd(0), 9)
	l := s.Acks(4, c)
	again := s.Ack(1, c)
	other := s.Ack(0, s.Cert(sample.Cmd(1), 9))
	broken := l[0]
	broken.Sig.Leaf++
	got, e := ack.Gather(s.Keys, c, []ack.Ack{other, broken, l[3], l[1], again, l[2], l[0]})
	if e != api.OK || !slices.Equal(whos(got), []int{0, 1, 2}) || !median.Same(got.C, c) || !same(got.Acks[1], l[1]) {
		t.Fatalf("P1401: Gather = %v, %v", whos(got), e)
	}
	if e := ack.ValidSeq(s.Keys, got); e != api.OK {
		t.Errorf("P1401: what was gathered is not valid: %v", e)
	}
	if got, e := ack.Gather(s.Keys, c, []ack.Ack{again, l[2], l[1], l[3]}); e != api.OK || !same(got.Acks[0], again) {
		t.Errorf("P1401: not the first ack of a replica: %v", e)
	}
	for _, few := range [][]ack.Ack{nil, l[:2], {l[0], l[1], l[1], other, broken}} {
		if got, e := ack.Gather(s.Keys, c, few); e != api.ErrFew || len(got.Acks) != 0 || !median.Same(got.C, median.Cert{}) {
			t.Errorf("P1401: Gather of too few = %v", e)
		}
	}
	bad := c
	bad.Stamps = c.Stamps[1:]
	if _, e := ack.Gather(s.Keys, bad, nil); e != api.ErrFew {
		t.Errorf("P1401: Gather for a wrong certificate = %v", e)
	}
	bad.C.Amount = 0
	if _, e := ack.Gather(s.Keys, bad, l); e != api.ErrArg {
		t.Errorf("P1401: Gather for a wrong command = %v", e)
	}
	got.Acks[0].Sig.Path[0]++
	got.C.Stamps[0].Sig.Path[0]++
	if ack.Valid(s.Keys, l[0]) != api.OK || median.Valid(s.Keys, c) != api.OK {
		t.Error("P2: the Seq shares memory with what it was gathered from")
	}
}

func TestValidSeq(t *testing.T) {
	s := sample.New(1, 4)
	c := s.Cert(sample.Cmd(0), 9)
	l := s.Acks(4, c)
	other := s.Ack(1, s.Cert(sample.Cmd(1), 9))
	broken := l[1]
	broken.Sig.One[0]++
	alien := l[3]
	alien.Who = 4
	wrong := c
	wrong.Stamps = []stamp.Stamp{c.Stamps[0], c.Stamps[0], c.Stamps[2]}
	for i, x := range []struct {
		c    median.Cert
		l    []ack.Ack
		want api.Errno
	}{
		{c, l[:3], api.OK},
		{c, l[1:], api.OK},
		{wrong, nil, api.ErrOrder},
		{c, nil, api.ErrFew},
		{c, l, api.ErrFew},
		{c, l[:2], api.ErrFew},
		{c, []ack.Ack{l[0], l[2], l[1]}, api.ErrOrder},
		{c, []ack.Ack{l[0], l[0], l[1]}, api.ErrOrder},
		{c, []ack.Ack{l[0], other, l[2]}, api.ErrName},
		{c, []ack.Ack{l[0], broken, l[2]}, api.ErrSig},
		{c, []ack.Ack{l[0], l[1], alien}, api.ErrArg},
		{c, []ack.Ack{l[2], other, broken}, api.ErrOrder},
		{c, []ack.Ack{l[0], broken, other}, api.ErrSig},
	} {
		if e := ack.ValidSeq(s.Keys, ack.Seq{C: x.c, Acks: x.l}); e != x.want {
			t.Errorf("P1401: case %d: %v, want %v", i, e, x.want)
		}
	}
}

func TestTextAndParse(t *testing.T) {
	s := sample.New(1, 2)
	a := s.Ack(2, s.Cert(sample.Cmd(0), 9))
	parts := []string{hash.Text(a.Cert), "2", key.Text(a.Sig)}
	if got := ack.Text(a); got != field.Join(parts) {
		t.Errorf("P1401: Text = %q", got)
	}
	odd := a
	odd.Who = math.MinInt32
	for _, x := range []ack.Ack{a, odd, {Who: math.MaxInt32}} {
		if got, e := ack.Parse(ack.Text(x)); e != api.OK || !same(got, x) {
			t.Errorf("P1401: Parse = %v, %v", got, e)
		}
	}
	many := strings.Repeat("|", api.MaxField+1)
	for text, want := range map[string]api.Errno{
		"": api.ErrForm, "x": api.ErrForm, many: api.ErrLong,
		field.Join(parts[:2]):                                           api.ErrForm,
		field.Join(append(parts[:3:3], "")):                             api.ErrForm,
		field.Join([]string{"4d", "2", parts[2]}):                       api.ErrForm,
		field.Join([]string{parts[0], "x", parts[2]}):                   api.ErrForm,
		field.Join([]string{parts[0], "2147483648", parts[2]}):          api.ErrForm,
		field.Join([]string{parts[0], "9223372036854775808", parts[2]}): api.ErrForm,
		field.Join([]string{parts[0], "-2147483649", parts[2]}):         api.ErrForm,
		field.Join([]string{parts[0], "2", "|16|0|" + many}):            api.ErrForm,
		field.Join([]string{parts[0], "2", ""}):                         api.ErrForm,
	} {
		if got, e := ack.Parse(text); e != want || !same(got, ack.Ack{}) {
			t.Errorf("P1401: Parse(%.60q) = %v, want %v", text, e, want)
		}
	}
}
