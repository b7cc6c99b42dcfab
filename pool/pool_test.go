package pool_test

import (
	"math"
	"slices"
	"testing"

	"folkmoot/api"
	"folkmoot/field"
	"folkmoot/median"
	"folkmoot/pool"
	"folkmoot/sample"
	"folkmoot/stamp"
)

// cert is not signed: the pool does not look at signatures.
func cert(nonce int, at int64) median.Cert {
	return median.Cert{C: sample.Cmd(nonce), Stamps: []stamp.Stamp{{At: at}}}
}

func made(t *testing.T, room int, at ...int64) *pool.Pool {
	t.Helper()
	p, e := pool.New(room)
	if e != api.OK {
		t.Fatalf("P1301: New(%d) = %v", room, e)
	}
	for i, a := range at {
		if e := p.Accept(cert(i, a)); e != api.OK {
			t.Fatalf("P1301: Accept at %d = %v", a, e)
		}
	}
	return p
}

func times(l []median.Cert) []int64 { return field.Map(l, median.At) }

func TestNew(t *testing.T) {
	for _, room := range []int{0, -1, 65, math.MaxInt, math.MinInt} {
		if p, e := pool.New(room); p != nil || e != api.ErrArg {
			t.Errorf("P1301: New(%d) = %v, %v", room, p, e)
		}
	}
	one := made(t, 1, 5)
	if e := one.Accept(cert(1, 6)); e != api.ErrFull {
		t.Errorf("P1301: a pool with room for one certificate: %v", e)
	}
	p := made(t, api.MaxPool)
	if p.Floor() != 0 || p.Len() != 0 || len(p.All()) != 0 {
		t.Error("P1301: a new pool is not empty")
	}
	for i := range api.MaxPool {
		if e := p.Accept(cert(i, 5)); e != api.OK {
			t.Fatalf("P1301: certificate %d: %v", i, e)
		}
	}
	if e := p.Accept(cert(99, 5)); e != api.ErrFull || p.Len() != api.MaxPool {
		t.Errorf("P1301: a certificate too many: %v", e)
	}
}

func TestAccept(t *testing.T) {
	p := made(t, 3, 40, 30)
	if got := times(p.All()); !slices.Equal(got, []int64{30, 40}) {
		t.Errorf("P1301: All at %v", got)
	}
	for i, c := range []struct {
		c    median.Cert
		want api.Errno
	}{
		{cert(9, 0), api.ErrLate}, {cert(9, -3), api.ErrLate}, {median.Cert{C: sample.Cmd(9)}, api.ErrLate},
		{cert(0, 40), api.ErrTwice}, {cert(0, 41), api.OK}, {cert(1, 30), api.ErrTwice}, {cert(9, 50), api.ErrFull},
	} {
		if e := p.Accept(c.c); e != c.want {
			t.Errorf("P1301: case %d: %v, want %v", i, e, c.want)
		}
	}
	p.Close(35)
	for i, c := range []struct {
		c    median.Cert
		want api.Errno
	}{{cert(1, 30), api.ErrLate}, {cert(9, 35), api.ErrLate}, {cert(0, 40), api.ErrTwice}, {cert(9, 36), api.ErrFull}} {
		if e := p.Accept(c.c); e != c.want {
			t.Errorf("P1301: closed, case %d: %v, want %v", i, e, c.want)
		}
	}
	if got := times(p.All()); !slices.Equal(got, []int64{30, 40, 41}) || p.Len() != 3 {
		t.Errorf("P1301: All at %v", got)
	}
}

func TestOrderOfOneTime(t *testing.T) {
	p := made(t, 9, 7, 7, 7, 7, 5, 7)
	l := p.All()
	ordered := slices.IsSortedFunc(l[1:], func(a, b median.Cert) int {
		if median.Digest(a) < median.Digest(b) {
			return -1
		}
		return 1
	})
	if !ordered || median.At(l[0]) != 5 {
		t.Errorf("P1301: certificates of one time are not in the order of their digests")
	}
}

func TestClose(t *testing.T) {
	p := made(t, 3, 10, 20)
	for _, hi := range []int64{0, -1, math.MinInt64} {
		if p.Close(hi) || p.Floor() != 0 {
			t.Errorf("P1301: Close(%d) moved the floor to %d", hi, p.Floor())
		}
	}
	if !p.Close(15) || p.Floor() != 15 || p.Close(15) || p.Close(14) || p.Floor() != 15 || p.Len() != 2 {
		t.Errorf("P1301: after Close: %d, %d", p.Floor(), p.Len())
	}
	if !p.Close(math.MaxInt64) || p.Floor() != math.MaxInt64 {
		t.Errorf("P1301: Floor = %d", p.Floor())
	}
}

func TestRange(t *testing.T) {
	p := made(t, 5, 30, 10, 20, 40)
	for _, c := range []struct {
		lo, hi int64
		want   []int64
	}{
		{0, 100, []int64{10, 20, 30, 40}}, {10, 30, []int64{20, 30}}, {9, 10, []int64{10}}, {10, 10, nil},
		{30, 10, nil}, {40, 50, nil}, {math.MinInt64, 20, []int64{10, 20}}, {19, math.MaxInt64, []int64{20, 30, 40}},
	} {
		if got := times(p.Range(c.lo, c.hi)); !slices.Equal(got, c.want) {
			t.Errorf("P1301: Range(%d, %d) at %v", c.lo, c.hi, got)
		}
	}
	if p.Len() != 4 {
		t.Error("P1301: Range took something out")
	}
}

func TestDrop(t *testing.T) {
	p := made(t, 4, 30, 10, 20, 40)
	for _, c := range []struct {
		to   int64
		n    int
		left []int64
	}{{9, 0, []int64{10, 20, 30, 40}}, {20, 2, []int64{30, 40}}, {20, 0, []int64{30, 40}}, {math.MaxInt64, 2, nil}} {
		if n := p.Drop(c.to); n != c.n || !slices.Equal(times(p.All()), c.left) || p.Len() != len(c.left) {
			t.Errorf("P1301: Drop(%d) = %d, left %v", c.to, n, times(p.All()))
		}
	}
	if p.Floor() != 0 {
		t.Error("P1301: Drop moved the floor")
	}
	if e := p.Accept(cert(1, 10)); e != api.OK {
		t.Errorf("P1301: what was dropped is still there: %v", e)
	}
}

func TestTwin(t *testing.T) {
	p := made(t, 3, 10, 20)
	w := p.Twin()
	p.Close(15)
	p.Drop(10)
	if w.Floor() != 0 || !slices.Equal(times(w.All()), []int64{10, 20}) {
		t.Errorf("P1301: the twin went along: %d, %v", w.Floor(), times(w.All()))
	}
	w.Accept(cert(7, 15))
	if e := w.Accept(cert(8, 15)); e != api.ErrFull || p.Len() != 1 {
		t.Errorf("P1301: the twin has another room: %v, %d", e, p.Len())
	}
	if !slices.Equal(times(p.All()), []int64{20}) || !slices.Equal(times(w.All()), []int64{10, 15, 20}) {
		t.Error("P1301: the twins are not independent")
	}
}

func TestTwinsDoNotWriteIntoEachOther(t *testing.T) {
	p := made(t, 9, 10, 20, 30)
	w := p.Twin()
	p.Accept(cert(7, 25))
	w.Accept(cert(8, 5))
	if a, b := times(p.All()), times(w.All()); !slices.Equal(a, []int64{10, 20, 25, 30}) || !slices.Equal(b, []int64{5, 10, 20, 30}) {
		t.Errorf("P1301: the twins have %v and %v", a, b)
	}
}

func TestNothingIsShared(t *testing.T) {
	s := sample.New(1, 2)
	c := s.Cert(sample.Cmd(0), 10)
	d := median.Digest(c)
	p := made(t, 3)
	p.Accept(c)
	spoil := func(c median.Cert) {
		c.Stamps[0].Sig.Path[0]++
		c.Stamps[1].At = 99
	}
	spoil(c)
	spoil(p.All()[0])
	spoil(p.Range(0, 100)[0])
	spoil(p.Twin().All()[0])
	if got := p.All()[0]; median.Digest(got) != d || median.At(got) != 10 {
		t.Error("P2: the pool shares memory with what it is given or gives")
	}
}
