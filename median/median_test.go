package median_test

import (
	"math"
	"slices"
	"strings"
	"testing"

	"folkmoot/api"
	"folkmoot/cmd"
	"folkmoot/field"
	"folkmoot/hash"
	"folkmoot/median"
	"folkmoot/quorum"
	"folkmoot/sample"
	"folkmoot/stamp"
)

func TestOf(t *testing.T) {
	for _, c := range []struct {
		f    int
		l    []int64
		want int64
		e    api.Errno
	}{
		{1, []int64{5, 1, 9}, 5, api.OK},
		{1, []int64{9, 9, 1}, 9, api.OK},
		{1, []int64{-5, math.MinInt64, math.MaxInt64}, -5, api.OK},
		{2, []int64{50, 10, 40, 20, 30}, 30, api.OK},
		{3, []int64{7, 6, 5, 4, 3, 2, 1}, 4, api.OK},
		{1, []int64{5, 1}, 0, api.ErrFew},
		{1, []int64{5, 1, 9, 7}, 0, api.ErrFew},
		{1, nil, 0, api.ErrFew},
		{2, []int64{5, 1, 9}, 0, api.ErrFew},
		{math.MinInt, []int64{5}, 0, api.ErrFew},
		{math.MaxInt, []int64{5}, 0, api.ErrFew},
		{-1, nil, 0, api.ErrFew},
	} {
		l := slices.Clone(c.l)
		if got, e := median.Of(quorum.Conf{F: c.f}, l); got != c.want || e != c.e {
			t.Errorf("P1201: Of(%d, %v) = %d, %v", c.f, c.l, got, e)
		}
		if !slices.Equal(l, c.l) {
			t.Errorf("P2: Of changed its argument to %v", l)
		}
	}
}

func whos(c median.Cert) []int {
	return field.Map(c.Stamps, func(s stamp.Stamp) int { return s.Who })
}

func TestMake(t *testing.T) {
	s := sample.New(1, 5)
	c := sample.Cmd(0)
	l := s.Stamps(c, 30, 10, 20, 40)
	again := s.Stamp(3, c, 77)
	other := s.Stamp(0, sample.Cmd(1), 5)
	broken := l[0]
	broken.At++
	foreign := s.Stamp(1, c, 3)
	foreign.Who = 0
	given := []stamp.Stamp{other, broken, foreign, l[3], again, l[2], l[0], l[1]}
	got, e := median.Make(s.Keys, c, given)
	if e != api.OK || got.C != c || !slices.Equal(whos(got), []int{0, 1, 2}) || median.Valid(s.Keys, got) != api.OK {
		t.Fatalf("P1201: Make = %v, %v", whos(got), e)
	}
	if got, e := median.Make(s.Keys, c, []stamp.Stamp{again, l[2], l[3], l[1]}); e != api.OK ||
		!slices.Equal(whos(got), []int{1, 2, 3}) || got.Stamps[2].At != 77 {
		t.Errorf("P1201: not the first stamp of a replica: %v, %v", got.Stamps, e)
	}
	for _, l := range [][]stamp.Stamp{nil, l[:2], {l[0], l[1], other, broken, l[0], foreign}} {
		if got, e := median.Make(s.Keys, c, l); e != api.ErrFew || len(got.Stamps) != 0 || got.C != (cmd.Cmd{}) {
			t.Errorf("P1201: Make of too few = %v, %v", got, e)
		}
	}
	if _, e := median.Make(s.Keys, cmd.Cmd{}, nil); e != api.ErrArg {
		t.Errorf("P1201: Make for a wrong command = %v", e)
	}
	got.Stamps[0].Sig.Path[0]++
	got.Stamps[1].At++
	if stamp.Valid(s.Keys, l[0]) != api.OK || stamp.Valid(s.Keys, l[1]) != api.OK {
		t.Error("P2: the certificate shares memory with the stamps")
	}
}

func TestValid(t *testing.T) {
	s := sample.New(1, 5)
	c := sample.Cmd(0)
	l := s.Stamps(c, 30, 10, 20, 40)
	other := s.Stamp(1, sample.Cmd(1), 10)
	broken := l[1]
	broken.Sig.One[0]++
	late := l[1]
	late.At = 0
	alien := l[3]
	alien.Who = 4
	minus := l[0]
	minus.Who = -1
	for i, x := range []struct {
		c    cmd.Cmd
		l    []stamp.Stamp
		want api.Errno
	}{
		{c, l[:3], api.OK},
		{c, []stamp.Stamp{l[0], l[2], l[3]}, api.OK},
		{cmd.Cmd{}, nil, api.ErrArg},
		{c, nil, api.ErrFew},
		{c, l[:2], api.ErrFew},
		{c, l, api.ErrFew},
		{c, []stamp.Stamp{l[0], l[2], l[1]}, api.ErrOrder},
		{c, []stamp.Stamp{l[0], l[1], l[1]}, api.ErrOrder},
		{c, []stamp.Stamp{l[0], other, l[2]}, api.ErrName},
		{sample.Cmd(2), l[:3], api.ErrName},
		{c, []stamp.Stamp{l[0], broken, l[2]}, api.ErrSig},
		{c, []stamp.Stamp{l[0], late, l[2]}, api.ErrArg},
		{c, []stamp.Stamp{l[0], l[1], alien}, api.ErrArg},
		{c, []stamp.Stamp{minus, l[1], l[2]}, api.ErrArg},
		{c, []stamp.Stamp{l[0], broken, l[1]}, api.ErrSig},
		{c, []stamp.Stamp{l[2], other, broken}, api.ErrOrder},
		{c, []stamp.Stamp{l[0], other, broken}, api.ErrName},
	} {
		if e := median.Valid(s.Keys, median.Cert{C: x.c, Stamps: x.l}); e != x.want {
			t.Errorf("P1201: case %d: %v, want %v", i, e, x.want)
		}
	}
}

func TestAt(t *testing.T) {
	at := func(l ...int64) int64 {
		var c median.Cert
		for _, t := range l {
			c.Stamps = append(c.Stamps, stamp.Stamp{At: t})
		}
		return median.At(c)
	}
	for i, c := range []struct{ got, want int64 }{
		{at(), 0}, {at(7), 7}, {at(9, 3), 9}, {at(9, 3, 5), 5}, {at(4, 1, 3, 2), 3},
		{at(-1, -9, -5), -5}, {at(5, 4, 3, 2, 1, 0, -1), 2},
	} {
		if c.got != c.want {
			t.Errorf("P1201: case %d: At = %d, want %d", i, c.got, c.want)
		}
	}
	c := median.Cert{Stamps: []stamp.Stamp{{At: 3}, {At: 1}, {At: 2}}}
	if median.At(c); c.Stamps[0].At != 3 || c.Stamps[1].At != 1 {
		t.Error("P2: At changed its argument")
	}
}

func TestAtLiesWithinHonestTimes(t *testing.T) {
	for f := 1; f <= api.MaxF; f++ {
		s := sample.New(f, 3)
		c := sample.Cmd(0)
		for _, wrong := range []int64{1, api.MaxTime} {
			for bad := range f + 1 {
				var l []stamp.Stamp
				for who := range s.Q() {
					at := int64(100 + who)
					if who < bad {
						at = wrong
					}
					l = append(l, s.Stamp(who, c, at))
				}
				got, e := median.Make(s.Keys, c, l)
				if at := median.At(got); e != api.OK || at < int64(100+bad) || at > int64(100+s.Q()-1) {
					t.Errorf("P1202: F %d, %d wrong at %d: %d, %v", f, bad, wrong, at, e)
				}
			}
		}
	}
}

func TestTextAndParse(t *testing.T) {
	s := sample.New(1, 3)
	c := s.Cert(sample.Cmd(0), 9)
	want := field.Join([]string{"2,0,0,1,5", stamp.Text(c.Stamps[0]), stamp.Text(c.Stamps[1]), stamp.Text(c.Stamps[2])})
	if got := median.Text(c); got != want {
		t.Errorf("P1201: Text = %q", got)
	}
	if got := median.Digest(c); got != hash.Of("cert", want) {
		t.Errorf("P1201: Digest = %x", got)
	}
	bare := median.Cert{C: sample.Cmd(1)}
	for _, x := range []median.Cert{c, bare, {C: c.C, Stamps: c.Stamps[2:]}} {
		if got, e := median.Parse(median.Text(x)); e != api.OK || !median.Same(got, x) {
			t.Errorf("P1201: Parse of %q = %v", median.Text(x), e)
		}
	}
	if got := median.Text(bare); got != "|2,1,0,1,5" {
		t.Errorf("P1201: Text = %q", got)
	}
}

func TestParseWrong(t *testing.T) {
	s := sample.New(1, 3)
	good := stamp.Text(s.Stamp(0, sample.Cmd(0), 9))
	many := strings.Repeat("|", api.MaxField+1)
	for text, want := range map[string]api.Errno{
		"":                                    api.ErrForm,
		"2,0,0,1,5":                           api.ErrForm,
		"|":                                   api.ErrForm,
		many:                                  api.ErrLong,
		"|2,0,0,0,5":                          api.ErrArg,
		"|2,0,0,1,9223372036854775808":        api.ErrLong,
		field.Join([]string{"2,0,0,1,5", ""}): api.ErrForm,
		field.Join([]string{"2,0,0,1,5", good, many}): api.ErrLong,
		field.Join([]string{"2,0,0,1,5", "x", many}):  api.ErrForm,
		field.Join([]string{"2,0,0,0,5", "x"}):        api.ErrArg,
	} {
		if got, e := median.Parse(text); e != want || !median.Same(got, median.Cert{}) {
			t.Errorf("P1201: Parse(%.40q) = %v, want %v", text, e, want)
		}
	}
}

func TestSame(t *testing.T) {
	s := sample.New(1, 3)
	a := s.Cert(sample.Cmd(0), 9)
	b, _ := median.Parse(median.Text(a))
	if !median.Same(a, b) || !median.Same(median.Cert{}, median.Cert{Stamps: []stamp.Stamp{}}) {
		t.Error("P1201: equal certificates are not Same")
	}
	b.Stamps[2].Sig.Path[0]++
	if median.Same(a, b) || median.Same(a, median.Cert{C: a.C, Stamps: a.Stamps[:2]}) ||
		median.Same(a, median.Cert{C: sample.Cmd(1), Stamps: a.Stamps}) {
		t.Error("P1201: a difference is not seen")
	}
}
