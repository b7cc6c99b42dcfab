package stamp_test

import (
	"math"
	"strings"
	"testing"

	"folkmoot/api"
	"folkmoot/field"
	"folkmoot/hash"
	"folkmoot/key"
	"folkmoot/quorum"
	"folkmoot/sample"
	"folkmoot/stamp"
)

func TestCheckKeys(t *testing.T) {
	keys := func(f, roots, height int) stamp.Keys {
		return stamp.Keys{Conf: quorum.Conf{F: f}, Roots: make([]hash.Digest, roots), Height: height}
	}
	for i, c := range []struct {
		k    stamp.Keys
		want api.Errno
	}{
		{keys(1, 4, 0), api.OK}, {keys(1, 4, 8), api.OK}, {keys(3, 10, 3), api.OK},
		{keys(0, 1, 3), api.ErrArg}, {keys(4, 13, 3), api.ErrArg}, {keys(-1, 0, 3), api.ErrArg},
		{keys(1, 3, 3), api.ErrArg}, {keys(1, 5, 3), api.ErrArg}, {keys(1, 0, 3), api.ErrArg},
		{keys(1, 4, -1), api.ErrArg}, {keys(1, 4, 9), api.ErrArg},
	} {
		if e := stamp.CheckKeys(c.k); e != c.want {
			t.Errorf("P1101: case %d: %v, want %v", i, e, c.want)
		}
	}
}

func TestWords(t *testing.T) {
	if got := stamp.Words(77, 2, 9); got != "|stamp|000000000000004d|2|9" {
		t.Errorf("P1101: Words = %q", got)
	}
	if got := stamp.Words(0, -1, math.MinInt64); got != "|stamp|0000000000000000|-1|-9223372036854775808" {
		t.Errorf("P1101: Words = %q", got)
	}
	if got := stamp.Digest(77, 2, 9); got != hash.Of("stamp", "|stamp|000000000000004d|2|9") {
		t.Errorf("P1101: Digest = %x", got)
	}
}

func TestMake(t *testing.T) {
	s := sample.New(1, 3)
	k := s.Key[2]
	for _, at := range []int64{0, -1, math.MinInt64, api.MaxTime + 1, math.MaxInt64} {
		if got, e := stamp.Make(k, 2, 77, at); e != api.ErrArg || !stamp.Same(got, stamp.Stamp{}) || k.Next() != 0 {
			t.Errorf("P1101: Make at %d = %v, leaf %d", at, e, k.Next())
		}
	}
	for i, at := range []int64{1, 9, api.MaxTime} {
		got, e := stamp.Make(k, 2, 77, at)
		if e != api.OK || got.Cmd != 77 || got.Who != 2 || got.At != at || got.Sig.Leaf != i {
			t.Errorf("P1101: Make at %d = %v, %v", at, got, e)
		}
		if !key.Verify(k.Root(), got.Sig, stamp.Digest(77, 2, at), 3) || stamp.Valid(s.Keys, got) != api.OK {
			t.Errorf("P1101: the stamp at %d is not valid", at)
		}
	}
	k.Skip(8)
	if _, e := stamp.Make(k, 2, 77, 9); e != api.ErrSpent {
		t.Errorf("P1101: Make with a spent key = %v", e)
	}
	if _, e := stamp.Make(k, 2, 77, 0); e != api.ErrArg {
		t.Errorf("P1101: a wrong time comes before a spent key: %v", e)
	}
	fresh, _ := key.New(2, 5, 1)
	if got, e := stamp.Make(fresh, 2, 77, 9); e != api.ErrState || !stamp.Same(got, stamp.Stamp{}) {
		t.Errorf("P1101: Make without a reserved leaf = %v", e)
	}
}

func TestValid(t *testing.T) {
	s := sample.New(1, 2)
	good := s.Stamp(2, sample.Cmd(0), 9)
	short := s.Keys
	short.Roots = short.Roots[:2]
	low := s.Keys
	low.Height = 1
	for i, c := range []struct {
		k      stamp.Keys
		change func(*stamp.Stamp)
		want   api.Errno
	}{
		{s.Keys, func(x *stamp.Stamp) {}, api.OK},
		{s.Keys, func(x *stamp.Stamp) { x.Who = -1 }, api.ErrArg},
		{s.Keys, func(x *stamp.Stamp) { x.Who = 4 }, api.ErrArg},
		{s.Keys, func(x *stamp.Stamp) { x.Who, x.Sig.Who = 4, 4 }, api.ErrArg},
		{s.Keys, func(x *stamp.Stamp) { x.Who = 1 }, api.ErrSig},
		{s.Keys, func(x *stamp.Stamp) { x.Who, x.Sig.Who = 1, 1 }, api.ErrSig},
		{s.Keys, func(x *stamp.Stamp) { x.Sig.Who = 1 }, api.ErrSig},
		{s.Keys, func(x *stamp.Stamp) { x.At = 0 }, api.ErrArg},
		{s.Keys, func(x *stamp.Stamp) { x.At = api.MaxTime + 1 }, api.ErrArg},
		{s.Keys, func(x *stamp.Stamp) { x.At = 10 }, api.ErrSig},
		{s.Keys, func(x *stamp.Stamp) { x.Cmd++ }, api.ErrSig},
		{s.Keys, func(x *stamp.Stamp) { x.Sig.Leaf++ }, api.ErrSig},
		{s.Keys, func(x *stamp.Stamp) { x.Sig.One[0]++ }, api.ErrSig},
		{short, func(x *stamp.Stamp) {}, api.ErrSig},
		{low, func(x *stamp.Stamp) {}, api.ErrSig},
		{stamp.Keys{}, func(x *stamp.Stamp) {}, api.ErrArg},
	} {
		x := good
		c.change(&x)
		if e := stamp.Valid(c.k, x); e != c.want {
			t.Errorf("P1101: case %d: %v, want %v", i, e, c.want)
		}
	}
	if e := stamp.Valid(s.Keys, s.Stamp(3, sample.Cmd(0), api.MaxTime)); e != api.OK {
		t.Errorf("P1101: the last replica at the last time: %v", e)
	}
	if e := stamp.Valid(s.Keys, s.Stamp(0, sample.Cmd(0), 1)); e != api.OK {
		t.Errorf("P1101: the first replica at the first time: %v", e)
	}
}

func TestTextAndParse(t *testing.T) {
	s := sample.New(1, 2)
	good := s.Stamp(2, sample.Cmd(0), 9)
	want := field.Join([]string{hash.Text(good.Cmd), "2", "9", key.Text(good.Sig)})
	if got := stamp.Text(good); got != want {
		t.Errorf("P1101: Text = %q", got)
	}
	odd := good
	odd.Who, odd.At = math.MinInt32, math.MinInt64
	for _, x := range []stamp.Stamp{good, odd, {Who: math.MaxInt32}} {
		if got, e := stamp.Parse(stamp.Text(x)); e != api.OK || !stamp.Same(got, x) {
			t.Errorf("P1101: Parse = %v, %v", got, e)
		}
	}
	parts := []string{hash.Text(good.Cmd), "2", "9", key.Text(good.Sig)}
	with := func(i int, s string) string {
		l := append([]string(nil), parts...)
		l[i] = s
		return field.Join(l)
	}
	many := strings.Repeat("|", api.MaxField+1)
	for s, want := range map[string]api.Errno{
		"": api.ErrForm, "x": api.ErrForm, many: api.ErrLong,
		field.Join(parts[:3]):               api.ErrForm,
		field.Join(append(parts[:4:4], "")): api.ErrForm,
		with(0, "4d"):                       api.ErrForm,
		with(1, ""):                         api.ErrForm,
		with(1, "2147483648"):               api.ErrForm,
		with(1, "-2147483649"):              api.ErrForm,
		with(1, "9223372036854775808"):      api.ErrForm,
		with(2, "09"):                       api.ErrForm,
		with(2, "9223372036854775808"):      api.ErrForm,
		with(3, ""):                         api.ErrForm,
		with(3, "|0|0|0|"):                  api.ErrForm,
		with(3, many):                       api.ErrForm,
	} {
		if got, e := stamp.Parse(s); e != want || !stamp.Same(got, stamp.Stamp{}) {
			t.Errorf("P1101: Parse(%.60q) = %v, want %v", s, e, want)
		}
	}
}

func TestSame(t *testing.T) {
	s := sample.New(1, 2)
	a := s.Stamp(2, sample.Cmd(0), 9)
	if b, _ := stamp.Parse(stamp.Text(a)); !stamp.Same(a, b) {
		t.Error("P1101: equal stamps are not Same")
	}
	for i, change := range []func(*stamp.Stamp){
		func(x *stamp.Stamp) { x.Cmd++ }, func(x *stamp.Stamp) { x.Who++ }, func(x *stamp.Stamp) { x.At++ },
		func(x *stamp.Stamp) { x.Sig.Leaf++ }, func(x *stamp.Stamp) { x.Sig.Path = x.Sig.Path[:1] },
	} {
		b := a
		change(&b)
		if stamp.Same(a, b) {
			t.Errorf("P1101: change %d is not seen", i)
		}
	}
}
