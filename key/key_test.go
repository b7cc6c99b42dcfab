package key_test

import (
	"math"
	"strings"
	"testing"

	"folkmoot/api"
	"folkmoot/field"
	"folkmoot/hash"
	"folkmoot/key"
	"folkmoot/merkle"
	"folkmoot/ots"
)

func made(t *testing.T, who int, seed uint64, height, reserved int) *key.Key {
	t.Helper()
	k, e := key.New(who, seed, height)
	if e != api.OK {
		t.Fatalf("P501: New = %v", e)
	}
	if reserved > 0 {
		if n, e := k.Reserve(reserved); n != reserved || e != api.OK {
			t.Fatalf("P501: Reserve = %d, %v", n, e)
		}
	}
	return k
}

func TestNew(t *testing.T) {
	for _, c := range [][2]int{{-1, 2}, {16, 2}, {0, -1}, {0, 9}, {math.MaxInt, 2}, {3, math.MinInt}} {
		if k, e := key.New(c[0], 5, c[1]); k != nil || e != api.ErrArg {
			t.Errorf("P501: New(%d, 5, %d) = %v, %v", c[0], c[1], k, e)
		}
	}
	for _, c := range []struct {
		seed   uint64
		height int
		root   hash.Digest
	}{{9, 2, 0x283c45fa68ad4d14}, {math.MaxUint64, 8, 0x73882e966dd61464}, {0, 0, 0xbf279ac97aa185d4}} {
		k := made(t, 15, c.seed, c.height, 0)
		if k.Root() != c.root || k.Next() != 0 || k.Left() != 1<<c.height {
			t.Errorf("P501: seed %d: %x, %d, %d", c.seed, k.Root(), k.Next(), k.Left())
		}
		if _, e := k.Sign(1); e != api.ErrState {
			t.Errorf("P501: a new key signs: %v", e)
		}
	}
}

func TestReserve(t *testing.T) {
	k := made(t, 1, 7, 2, 0)
	for _, n := range []int{0, -1, math.MinInt} {
		if got, e := k.Reserve(n); got != 0 || e != api.ErrArg {
			t.Errorf("P501: Reserve(%d) = %d, %v", n, got, e)
		}
	}
	for _, n := range []int{5, math.MaxInt} {
		if got, e := k.Reserve(n); got != 0 || e != api.ErrSpent {
			t.Errorf("P501: Reserve(%d) = %d, %v", n, got, e)
		}
	}
	if n, e := k.Reserve(1); n != 1 || e != api.OK {
		t.Errorf("P501: Reserve(1) = %d, %v", n, e)
	}
	if n, e := k.Reserve(3); n != 4 || e != api.OK {
		t.Errorf("P501: Reserve(3) = %d, %v", n, e)
	}
	if n, e := k.Reserve(1); n != 0 || e != api.ErrSpent {
		t.Errorf("P501: Reserve beyond the end = %d, %v", n, e)
	}
}

func TestSign(t *testing.T) {
	k := made(t, 3, 7, 2, 2)
	var pubs []hash.Digest
	for leaf := range 4 {
		pubs = append(pubs, hash.Digest(ots.Pub(ots.Secrets(7, leaf))))
	}
	for leaf := range 4 {
		d := hash.Digest(100 + leaf)
		if leaf == 2 {
			if s, e := k.Sign(d); e != api.ErrState || !key.Same(s, key.Sig{}) || k.Next() != 2 {
				t.Errorf("P501: an unreserved leaf signs: %v", e)
			}
			k.Reserve(2)
		}
		s, e := k.Sign(d)
		path, _ := merkle.Path(pubs, leaf)
		want := key.Sig{Who: 3, Leaf: leaf, One: ots.Sign(ots.Secrets(7, leaf), d), Path: path}
		if e != api.OK || !key.Same(s, want) {
			t.Errorf("P501: leaf %d: %v, %v", leaf, s, e)
		}
		if k.Next() != leaf+1 || k.Left() != 3-leaf {
			t.Errorf("P501: after leaf %d: %d, %d", leaf, k.Next(), k.Left())
		}
		if !key.Verify(k.Root(), s, d, 2) {
			t.Errorf("P501: leaf %d is not verified", leaf)
		}
	}
	if s, e := k.Sign(1); e != api.ErrSpent || !key.Same(s, key.Sig{}) {
		t.Errorf("P501: a spent key signs: %v", e)
	}
}

func TestSkip(t *testing.T) {
	k := made(t, 0, 1, 3, 2)
	k.Sign(1)
	for _, to := range []int{0, -1, 9, math.MaxInt} {
		if e := k.Skip(to); e != api.ErrArg || k.Next() != 1 {
			t.Errorf("P501: Skip(%d) = %v", to, e)
		}
	}
	if e := k.Skip(1); e != api.OK || k.Next() != 1 {
		t.Errorf("P501: Skip to the next leaf: %v", e)
	}
	if s, e := k.Sign(1); e != api.OK || s.Leaf != 1 {
		t.Errorf("P501: Skip took a reservation away: %v", e)
	}
	if e := k.Skip(5); e != api.OK || k.Next() != 5 || k.Left() != 3 {
		t.Errorf("P501: Skip(5): %v, %d, %d", e, k.Next(), k.Left())
	}
	if _, e := k.Sign(1); e != api.ErrState {
		t.Errorf("P501: the leaf skipped to is reserved: %v", e)
	}
	if n, e := k.Reserve(2); n != 7 || e != api.OK {
		t.Errorf("P501: Reserve after Skip = %d, %v", n, e)
	}
	if s, e := k.Sign(1); e != api.OK || s.Leaf != 5 {
		t.Errorf("P501: after Skip leaf %d, %v", s.Leaf, e)
	}
	if e := k.Skip(8); e != api.OK || k.Left() != 0 {
		t.Errorf("P501: Skip to the end: %v, %d", e, k.Left())
	}
	if _, e := k.Sign(1); e != api.ErrSpent {
		t.Errorf("P501: after the end: %v", e)
	}
	if _, e := k.Reserve(1); e != api.ErrSpent {
		t.Errorf("P501: Reserve after the end: %v", e)
	}
}

func TestSkipWithinReserved(t *testing.T) {
	k := made(t, 0, 1, 3, 6)
	k.Skip(3)
	if n, e := k.Reserve(1); n != 7 || e != api.OK {
		t.Errorf("P501: Skip lowered what is reserved: %d, %v", n, e)
	}
}

func TestTwin(t *testing.T) {
	k := made(t, 2, 4, 2, 2)
	w := k.Twin()
	a, _ := k.Sign(5)
	if w.Next() != 0 || w.Root() != k.Root() {
		t.Error("P501: the twin went along")
	}
	b, e := w.Sign(5)
	if e != api.OK || !key.Same(a, b) {
		t.Errorf("P501: the twin signs otherwise: %v", e)
	}
	w.Skip(4)
	if k.Next() != 1 {
		t.Error("P501: the key went along with its twin")
	}
}

func TestVerify(t *testing.T) {
	k := made(t, 2, 4, 2, 4)
	k.Skip(1)
	s, _ := k.Sign(5)
	for name, ok := range map[string]bool{
		"root":   key.Verify(k.Root()+1, s, 5, 2),
		"digest": key.Verify(k.Root(), s, 6, 2),
		"lower":  key.Verify(k.Root(), s, 5, 1),
		"higher": key.Verify(k.Root(), s, 5, 3),
		"minus":  key.Verify(k.Root(), s, 5, -1),
		"leaf":   key.Verify(k.Root(), key.Sig{Who: 2, Leaf: 2, One: s.One, Path: s.Path}, 5, 2),
		"past":   key.Verify(k.Root(), key.Sig{Who: 2, Leaf: 5, One: s.One, Path: s.Path}, 5, 2),
		"before": key.Verify(k.Root(), key.Sig{Who: 2, Leaf: -3, One: s.One, Path: s.Path}, 5, 2),
		"path":   key.Verify(k.Root(), key.Sig{Who: 2, Leaf: 1, One: s.One, Path: s.Path[:1]}, 5, 2),
	} {
		if ok {
			t.Errorf("P501: verified with a wrong %s", name)
		}
	}
	if other := (key.Sig{Who: 9, Leaf: 1, One: s.One, Path: s.Path}); !key.Verify(k.Root(), other, 5, 2) {
		t.Error("P501: Verify asks for Who")
	}
}

func TestTextAndParse(t *testing.T) {
	k := made(t, 15, 4, 2, 4)
	s, _ := k.Sign(5)
	one := make([]string, ots.Chains)
	for i, d := range s.One {
		one[i] = hash.Text(d)
	}
	want := "|15|0|" + strings.Join(one, ",") + "|" + hash.Text(s.Path[0]) + "," + hash.Text(s.Path[1])
	if got := key.Text(s); got != want {
		t.Errorf("P501: Text = %q, want %q", got, want)
	}
	single := key.Sig{Leaf: math.MaxInt}
	long := key.Sig{Who: 1, Path: make([]hash.Digest, api.MaxHeight)}
	for _, s := range []key.Sig{s, single, long} {
		if got, e := key.Parse(key.Text(s)); e != api.OK || !key.Same(got, s) {
			t.Errorf("P501: Parse of %q = %v, %v", key.Text(s), got, e)
		}
	}
	if got := key.Text(single); !strings.HasSuffix(got, "|") || !strings.HasPrefix(got, "|0|9223372036854775807|0000") {
		t.Errorf("P501: Text without a path = %q", got)
	}
}

func TestParseWrong(t *testing.T) {
	chain := hash.Text(1)
	one := strings.Repeat(chain+",", ots.Chains-1) + chain
	good := []string{"2", "3", one, chain}
	if _, e := key.Parse(field.Join(good)); e != api.OK {
		t.Fatalf("P501: Parse = %v", e)
	}
	with := func(i int, s string) string {
		l := append([]string(nil), good...)
		l[i] = s
		return field.Join(l)
	}
	for _, s := range []string{
		"", "x", field.Join(good[:3]), field.Join(append(good[:4:4], "")), strings.Repeat("|", api.MaxField+1),
		with(0, "16"), with(0, "-1"), with(0, ""), with(0, "02"), with(0, "99999999999999999999"),
		with(1, "-1"), with(1, "x"), with(1, "9223372036854775808"),
		with(2, ""), with(2, one+","+chain), with(2, one[17:]), with(2, one+","), with(2, strings.ToUpper(strings.Replace(one, "0", "a", 1))),
		with(3, ","), with(3, chain+","), with(3, chain[1:]), with(3, "|"), with(3, strings.Repeat(chain+",", api.MaxHeight)+chain),
	} {
		if got, e := key.Parse(s); e != api.ErrForm || !key.Same(got, key.Sig{}) {
			t.Errorf("P501: Parse(%.40q) = %v, %v", s, got, e)
		}
	}
}

func TestSame(t *testing.T) {
	a := key.Sig{Who: 1, Leaf: 2, One: ots.Sig{3: 4}, Path: []hash.Digest{5, 6}}
	b := key.Sig{Who: 1, Leaf: 2, One: ots.Sig{3: 4}, Path: []hash.Digest{5, 6}}
	if !key.Same(a, b) || !key.Same(key.Sig{}, key.Sig{Path: []hash.Digest{}}) {
		t.Error("P501: equal signatures are not Same")
	}
	for i, change := range []func(*key.Sig){
		func(s *key.Sig) { s.Who++ }, func(s *key.Sig) { s.Leaf++ }, func(s *key.Sig) { s.One[17]++ },
		func(s *key.Sig) { s.Path = []hash.Digest{5, 7} }, func(s *key.Sig) { s.Path = s.Path[:1] },
		func(s *key.Sig) { s.Path = []hash.Digest{5, 6, 0} }, func(s *key.Sig) { s.Path = nil },
	} {
		c := b
		change(&c)
		if key.Same(a, c) || key.Same(c, a) {
			t.Errorf("P501: change %d is not seen", i)
		}
	}
}

func TestSignaturesShareNothing(t *testing.T) {
	k := made(t, 0, 1, 2, 2)
	w := k.Twin()
	s, _ := k.Sign(1)
	for i := range s.Path {
		s.Path[i] = 0
	}
	for _, k := range []*key.Key{k, w} {
		if s, _ := k.Sign(1); !key.Verify(k.Root(), s, 1, 2) {
			t.Error("P2: a change of a signature changed its key")
		}
	}
}
