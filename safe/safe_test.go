package safe_test

import (
	"testing"

	"folkmoot/api"
	"folkmoot/block"
	"folkmoot/hash"
	"folkmoot/key"
	"folkmoot/safe"
	"folkmoot/tree"
)

// qc is not signed: the rule does not look at signatures.
func qc(b block.Block) block.QC { return block.QC{View: b.View, Block: block.Digest(b)} }

func added(t *testing.T, tr *tree.Tree, parent block.Block, view int, hi int64) block.Block {
	t.Helper()
	b := block.Block{View: view, Parent: block.Digest(parent), QC: qc(parent), Lo: parent.Hi, Hi: hi}
	if e := tr.Add(b); e != api.OK {
		t.Fatalf("P1801: Add of view %d = %v", view, e)
	}
	return b
}

func same(s safe.Safe, voted, locked, high int) bool {
	return s.Voted == voted && s.Locked.View == locked && s.High.View == high
}

func TestNew(t *testing.T) {
	if s := safe.New(); !same(s, 0, 0, 0) || s.Locked.Block != 0 || s.High.Block != 0 || len(s.High.Votes) != 0 {
		t.Errorf("P1801: New = %v", s)
	}
}

func TestVotesAlongAChain(t *testing.T) {
	tr := tree.New()
	a := added(t, tr, block.Genesis(), 1, 10)
	b := added(t, tr, a, 2, 20)
	c := added(t, tr, b, 3, 30)
	s, e := safe.Vote(safe.New(), tr, a)
	if e != api.OK || !same(s, 1, 0, 0) {
		t.Fatalf("P1801: the first vote: %v, %v", s, e)
	}
	if again, e := safe.Vote(s, tr, a); e != api.ErrView || !same(again, 1, 0, 0) {
		t.Errorf("P1801: a second vote: %v, %v", again, e)
	}
	s, e = safe.Vote(s, tr, b)
	if e != api.OK || !same(s, 2, 0, 1) {
		t.Fatalf("P1801: the second block: %v, %v", s, e)
	}
	s, e = safe.Vote(s, tr, c)
	if e != api.OK || !same(s, 3, 1, 2) || s.Locked.Block != block.Digest(a) || s.High.Block != block.Digest(b) {
		t.Errorf("P1801: the third block: %v, %v", s, e)
	}
}

func TestMay(t *testing.T) {
	tr := tree.New()
	a := added(t, tr, block.Genesis(), 1, 10)
	b := added(t, tr, a, 2, 20)
	c := added(t, tr, b, 6, 30)
	side := added(t, tr, a, 4, 20)
	far := added(t, tr, side, 7, 30)
	lone := added(t, tr, block.Genesis(), 9, 5)
	absent := block.Block{View: 8, Parent: block.Digest(c), QC: qc(c), Lo: 30, Hi: 40}
	for i, x := range []struct {
		voted  int
		locked block.QC
		b      block.Block
		want   api.Errno
	}{
		{0, block.QC{}, a, api.OK},
		{0, block.QC{}, absent, api.ErrParent},
		{8, block.QC{}, absent, api.ErrParent},
		{1, block.QC{}, a, api.ErrView},
		{2, block.QC{}, a, api.ErrView},
		{1, block.QC{}, b, api.OK},
		{0, block.QC{}, block.Genesis(), api.ErrView},
		{-1, block.QC{}, block.Genesis(), api.OK},
		{0, qc(a), side, api.OK},
		{0, qc(b), side, api.ErrLock},
		{4, qc(b), side, api.ErrView},
		{0, qc(b), far, api.OK},
		{0, qc(b), b, api.OK},
		{0, qc(b), c, api.OK},
		{0, qc(side), c, api.ErrLock},
		{0, qc(a), lone, api.ErrLock},
		{0, block.QC{View: 3, Block: block.Digest(b)}, far, api.OK},
		{0, block.QC{View: 4, Block: block.Digest(b)}, far, api.ErrLock},
		{0, block.QC{View: 5, Block: 999}, far, api.ErrLock},
		{0, block.QC{View: 3, Block: 999}, far, api.OK},
	} {
		s := safe.Safe{Voted: x.voted, Locked: x.locked}
		if e := safe.May(s, tr, x.b); e != x.want {
			t.Errorf("P1801: case %d: May = %v, want %v", i, e, x.want)
		}
		got, e := safe.Vote(s, tr, x.b)
		if e != x.want {
			t.Errorf("P1801: case %d: Vote = %v, want %v", i, e, x.want)
		}
		if e != api.OK && (!same(got, x.voted, x.locked.View, 0) || got.Locked.Block != x.locked.Block) {
			t.Errorf("P1801: case %d: a refused vote left %v", i, got)
		}
	}
}

func TestSaw(t *testing.T) {
	tr := tree.New()
	a := added(t, tr, block.Genesis(), 2, 10)
	b := added(t, tr, a, 4, 20)
	c := added(t, tr, b, 6, 30)
	away := block.QC{View: 9, Block: 999}
	equal := block.QC{View: 4, Block: 888}
	for i, x := range []struct {
		locked, high block.QC
		q            block.QC
		wantLocked   block.QC
		wantHigh     block.QC
	}{
		{block.QC{}, block.QC{}, block.QC{}, block.QC{}, block.QC{}},
		{block.QC{}, block.QC{}, qc(a), block.QC{}, qc(a)},
		{block.QC{}, qc(a), qc(b), qc(a), qc(b)},
		{block.QC{}, qc(c), qc(b), qc(a), qc(c)},
		{block.QC{}, equal, qc(b), qc(a), equal},
		{block.QC{View: 2, Block: 777}, equal, qc(b), block.QC{View: 2, Block: 777}, equal},
		{qc(a), qc(b), qc(c), qc(b), qc(c)},
		{qc(b), qc(c), qc(b), qc(b), qc(c)},
		{qc(a), qc(b), away, qc(a), away},
		{qc(a), away, qc(c), qc(b), away},
	} {
		got := safe.Saw(safe.Safe{Voted: 3, Locked: x.locked, High: x.high}, tr, x.q)
		if !same(got, 3, x.wantLocked.View, x.wantHigh.View) || got.Locked.Block != x.wantLocked.Block || got.High.Block != x.wantHigh.Block {
			t.Errorf("P1801: case %d: Saw = %v", i, got)
		}
	}
}

func TestNothingIsShared(t *testing.T) {
	signed := func(view int, path hash.Digest) block.QC {
		return block.QC{View: view, Block: 5, Votes: []block.Vote{{Sig: key.Sig{Path: []hash.Digest{path}}}}}
	}
	tr := tree.New()
	s := safe.Safe{Voted: 1, Locked: signed(1, 11), High: signed(1, 12)}
	q := signed(2, 13)
	saw := safe.Saw(s, tr, q)
	refused, _ := safe.Vote(s, tr, block.Genesis())
	for _, r := range []safe.Safe{saw, refused} {
		r.Locked.Votes[0].Sig.Path[0] = 0
		r.High.Votes[0].Sig.Path[0] = 0
		r.High.Votes[0].Who = 9
	}
	if s.Locked.Votes[0].Sig.Path[0] != 11 || s.High.Votes[0].Sig.Path[0] != 12 || q.Votes[0].Sig.Path[0] != 13 || q.Votes[0].Who != 0 {
		t.Error("P2: a Safe shares memory with what it was made from")
	}
}
