package cut_test

import (
	"math"
	"slices"
	"strings"
	"testing"

	"folkmoot/api"
	"folkmoot/cut"
	"folkmoot/field"
	"folkmoot/hash"
	"folkmoot/key"
	"folkmoot/median"
	"folkmoot/pool"
	"folkmoot/sample"
	"folkmoot/stamp"
)

// bare is not signed by anybody.
func bare(nonce int, at int64) median.Cert {
	return median.Cert{C: sample.Cmd(nonce), Stamps: []stamp.Stamp{{At: at}}}
}

func filled(certs ...median.Cert) *pool.Pool {
	p, _ := pool.New(api.MaxPool)
	for _, c := range certs {
		p.Accept(c)
	}
	return p
}

func times(l []median.Cert) []int64 { return field.Map(l, median.At) }

func TestWords(t *testing.T) {
	a, b := bare(0, 5), bare(1, 6)
	r := cut.Report{Who: 2, Lo: 3, Hi: 9, Certs: []median.Cert{b, a}, Sig: key.Sig{Leaf: 8}}
	want := "|cut|2|3|9|" + hash.Text(median.Digest(b)) + "|" + hash.Text(median.Digest(a))
	if got := cut.Words(r); got != want {
		t.Errorf("P1501: Words = %q", got)
	}
	if got := cut.Digest(r); got != hash.Of("cut", want) {
		t.Errorf("P1501: Digest = %x", got)
	}
	if got := cut.Words(cut.Report{Lo: -1}); got != "|cut|0|-1|0" {
		t.Errorf("P1501: Words = %q", got)
	}
}

func TestMake(t *testing.T) {
	s := sample.New(1, 3)
	p := filled(bare(0, 10), bare(1, 20), bare(2, 25), bare(3, 30))
	for _, c := range [][2]int64{{-1, 5}, {5, 5}, {6, 5}, {0, 0}, {0, api.MaxTime + 1}, {math.MaxInt64, math.MinInt64}} {
		if r, e := cut.Make(s.Key[1], 1, p, c[0], c[1]); e != api.ErrArg || !cut.Same(r, cut.Report{}) || p.Floor() != 0 {
			t.Errorf("P1501: Make from %d to %d = %v", c[0], c[1], e)
		}
	}
	r, e := cut.Make(s.Key[1], 1, p, 10, 25)
	if e != api.OK || r.Who != 1 || r.Lo != 10 || r.Hi != 25 || !slices.Equal(times(r.Certs), []int64{20, 25}) || p.Floor() != 25 || p.Len() != 4 {
		t.Fatalf("P1501: Make = %v, %v, Floor %d", r, e, p.Floor())
	}
	if !key.Verify(s.Keys.Roots[1], r.Sig, cut.Digest(r), 3) {
		t.Error("P1501: the report does not sign its Digest")
	}
	if r, e := cut.Make(s.Key[1], 1, p, 10, 24); e != api.ErrLate || !cut.Same(r, cut.Report{}) {
		t.Errorf("P1501: Make below the floor = %v", e)
	}
	if _, e := cut.Make(s.Key[1], 1, p, 24, 24); e != api.ErrArg {
		t.Errorf("P1501: ErrArg comes before ErrLate: %v", e)
	}
	if r, e := cut.Make(s.Key[1], 1, p, 0, 25); e != api.OK || len(r.Certs) != 3 || p.Floor() != 25 {
		t.Errorf("P1501: Make up to the floor = %v", e)
	}
	r.Certs[0].Stamps[0].At = 1
	if !slices.Equal(times(p.All()), []int64{10, 20, 25, 30}) {
		t.Error("P2: the report shares memory with the pool")
	}
}

func TestMakeClosesThePoolEvenWithoutASignature(t *testing.T) {
	spent, _ := key.New(1, 5, 0)
	p := filled(bare(0, 10))
	if r, e := cut.Make(spent, 1, p, 0, 7); e != api.ErrState || !cut.Same(r, cut.Report{}) || p.Floor() != 7 {
		t.Errorf("P1501: Make = %v, Floor %d", e, p.Floor())
	}
	spent.Skip(1)
	if _, e := cut.Make(spent, 1, p, 0, 9); e != api.ErrSpent || p.Floor() != 9 {
		t.Errorf("P1501: Make = %v, Floor %d", e, p.Floor())
	}
}

func TestValid(t *testing.T) {
	s := sample.New(1, 6)
	a, b := s.Cert(sample.Cmd(0), 10), s.Cert(sample.Cmd(1), 20)
	same := []median.Cert{s.Cert(sample.Cmd(2), 20), b}
	if median.Digest(same[0]) > median.Digest(same[1]) {
		same[0], same[1] = same[1], same[0]
	}
	broken := s.Cert(sample.Cmd(3), 15)
	broken.Stamps = broken.Stamps[1:]
	forged := s.Report(2, 0, 30, a)
	forged.Certs = []median.Cert{b}
	moved := s.Report(2, 0, 30, a)
	moved.Hi = 31
	alien := s.Report(2, 0, 30)
	alien.Who = 4
	minus := alien
	minus.Who = -1
	taken := s.Report(2, 0, 30)
	taken.Who = 1
	for i, c := range []struct {
		r    cut.Report
		want api.Errno
	}{
		{s.Report(2, 0, 30), api.OK},
		{s.Report(3, 0, 30, a, b), api.OK},
		{s.Report(0, 9, 20, a, b), api.OK},
		{s.Report(0, 9, 20, a, same[0], same[1]), api.OK},
		{s.Report(0, 0, api.MaxTime, a), api.OK},
		{alien, api.ErrArg}, {minus, api.ErrArg}, {taken, api.ErrSig},
		{s.Report(2, -1, 30), api.ErrArg}, {s.Report(2, 30, 30), api.ErrArg}, {s.Report(2, 0, api.MaxTime+1), api.ErrArg},
		{s.Report(2, 0, 30, broken), api.ErrFew},
		{s.Report(2, 10, 30, a, b), api.ErrLate},
		{s.Report(2, 0, 19, a, b), api.ErrLate},
		{s.Report(2, 0, 30, b, a), api.ErrOrder},
		{s.Report(2, 0, 30, a, a), api.ErrOrder},
		{s.Report(2, 0, 30, same[1], same[0]), api.ErrOrder},
		{s.Report(2, 0, 30, b, a, broken), api.ErrOrder},
		{s.Report(2, 0, 30, b, broken, a), api.ErrFew},
		{s.Report(2, 10, 30, b, a), api.ErrLate},
		{forged, api.ErrSig}, {moved, api.ErrSig},
	} {
		if e := cut.Valid(s.Keys, c.r); e != c.want {
			t.Errorf("P1501: case %d: %v, want %v", i, e, c.want)
		}
	}
}

func TestUnion(t *testing.T) {
	a, b, c, d := bare(0, 10), bare(1, 20), bare(2, 20), bare(3, 40)
	if median.Digest(b) > median.Digest(c) {
		b, c = c, b
	}
	l := []cut.Report{
		{Certs: []median.Cert{d, c}}, {}, {Certs: []median.Cert{a, c}}, {Certs: []median.Cert{b, b, d}},
	}
	got := cut.Union(l)
	if !slices.EqualFunc(got, []median.Cert{a, b, c, d}, median.Same) {
		t.Errorf("P1501: Union at %v", times(got))
	}
	var mixed [4]cut.Report
	for i, at := range []int64{50, 10, 30, 20, 25, 60, 70, 40, 5, 80, 90, 35} {
		mixed[i%4].Certs = append(mixed[i%4].Certs, bare(i, at))
	}
	if l := times(cut.Union(mixed[:])); !slices.Equal(l, []int64{5, 10, 20, 25, 30, 35, 40, 50, 60, 70, 80, 90}) {
		t.Errorf("P1501: Union at %v", l)
	}
	if l := times(cut.Union([]cut.Report{{Certs: []median.Cert{d, a, c}}})); !slices.Equal(l, []int64{10, 20, 40}) {
		t.Errorf("P1501: Union of one report at %v", l)
	}
	got[0].Stamps[0].At = 99
	if l[2].Certs[0].Stamps[0].At != 10 || !median.Same(l[0].Certs[0], d) {
		t.Error("P2: the union shares memory with the reports")
	}
	if len(cut.Union(nil)) != 0 || len(cut.Union(make([]cut.Report, 3))) != 0 {
		t.Error("P1501: the union of nothing is not empty")
	}
}

func TestTextAndParse(t *testing.T) {
	s := sample.New(1, 4)
	r := s.Report(2, 3, 30, s.Cert(sample.Cmd(0), 10), s.Cert(sample.Cmd(1), 20))
	want := field.Join([]string{"2", "3", "30", key.Text(r.Sig), median.Text(r.Certs[0]), median.Text(r.Certs[1])})
	if got := cut.Text(r); got != want {
		t.Errorf("P1501: Text = %q", got)
	}
	for _, x := range []cut.Report{r, s.Report(1, 0, 5), {Who: math.MinInt32, Lo: math.MinInt64, Hi: math.MaxInt64}, {Who: math.MaxInt32}} {
		if got, e := cut.Parse(cut.Text(x)); e != api.OK || !cut.Same(got, x) {
			t.Errorf("P1501: Parse = %v, %v", got, e)
		}
	}
}

func TestParseWrong(t *testing.T) {
	s := sample.New(1, 4)
	sig := key.Text(s.Report(2, 3, 30).Sig)
	cert := median.Text(s.Cert(sample.Cmd(0), 10))
	many := strings.Repeat("|", api.MaxField+1)
	join := func(l ...string) string { return field.Join(l) }
	for text, want := range map[string]api.Errno{
		"": api.ErrForm, "x": api.ErrForm, many: api.ErrLong,
		join("2", "3", "30"):                               api.ErrForm,
		join("x", "3", "30", sig):                          api.ErrForm,
		join("2", "", "30", sig):                           api.ErrForm,
		join("2", "3", "030", sig):                         api.ErrForm,
		join("9223372036854775808", "3", "30", sig):        api.ErrForm,
		join("2", "3", "9223372036854775808", sig):         api.ErrForm,
		join("2147483648", "3", "30", sig):                 api.ErrForm,
		join("-2147483649", "3", "30", sig):                api.ErrForm,
		join("2", "3", "30", ""):                           api.ErrForm,
		join("2", "3", "30", many):                         api.ErrForm,
		join("2", "3", "30", sig, ""):                      api.ErrForm,
		join("2", "3", "30", sig, many):                    api.ErrLong,
		join("2", "3", "30", sig, "|1,2,3,3,5"):            api.ErrArg,
		join("2", "3", "30", sig, cert, "|1,2,3,3,5", ""):  api.ErrArg,
		join("2", "3", "30", sig, cert, "", "|1,2,3,3,5"):  api.ErrForm,
		join("2", "3", "30", "", cert, "|1,2,3,3,5"):       api.ErrForm,
		join("2147483648", "3", "30", sig, cert, many, ""): api.ErrForm,
	} {
		if got, e := cut.Parse(text); e != want || !cut.Same(got, cut.Report{}) {
			t.Errorf("P1501: Parse(%.60q) = %v, want %v", text, e, want)
		}
	}
}

func TestSame(t *testing.T) {
	s := sample.New(1, 4)
	a := s.Report(2, 3, 30, s.Cert(sample.Cmd(0), 10))
	if b, _ := cut.Parse(cut.Text(a)); !cut.Same(a, b) || !cut.Same(cut.Report{}, cut.Report{Certs: []median.Cert{}}) {
		t.Error("P1501: equal reports are not Same")
	}
	for i, change := range []func(*cut.Report){
		func(r *cut.Report) { r.Who++ }, func(r *cut.Report) { r.Lo++ }, func(r *cut.Report) { r.Hi++ },
		func(r *cut.Report) { r.Certs = nil }, func(r *cut.Report) { r.Certs = []median.Cert{bare(0, 10)} },
		func(r *cut.Report) { r.Certs = append(r.Certs[:1:1], r.Certs[0]) }, func(r *cut.Report) { r.Sig.Leaf++ },
	} {
		b := a
		change(&b)
		if cut.Same(a, b) {
			t.Errorf("P1501: change %d is not seen", i)
		}
	}
}
