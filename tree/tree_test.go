package tree_test

import (
	"math"
	"slices"
	"testing"

	"folkmoot/api"
	"folkmoot/block"
	"folkmoot/cut"
	"folkmoot/hash"
	"folkmoot/key"
	"folkmoot/tree"
)

// on is a block that nobody signed: the tree does not look at signatures.
func on(parent block.Block, view int, hi int64) block.Block {
	return block.Block{View: view, Parent: block.Digest(parent), Lo: parent.Hi, Hi: hi}
}

func added(t *testing.T, tr *tree.Tree, parent block.Block, view int, hi int64) block.Block {
	t.Helper()
	b := on(parent, view, hi)
	if e := tr.Add(b); e != api.OK {
		t.Fatalf("P1701: Add of view %d = %v", view, e)
	}
	return b
}

func TestNew(t *testing.T) {
	tr := tree.New()
	g, ok := tr.Get(0)
	if tr.Len() != 1 || !ok || g.View != 0 || !slices.Equal(tr.Path(0), []hash.Digest{0}) || !tr.Extends(0, 0) {
		t.Errorf("P1701: a new tree has %d, %v", tr.Len(), ok)
	}
	if e := tr.Add(block.Genesis()); e != api.ErrTwice {
		t.Errorf("P1701: Add of Genesis = %v", e)
	}
	if e := tr.Add(block.Block{Parent: 99, Hi: 5}); e != api.ErrTwice {
		t.Errorf("P1701: Add in the View 0 = %v", e)
	}
}

func TestAdd(t *testing.T) {
	tr := tree.New()
	a := added(t, tr, block.Genesis(), 3, 10)
	b := added(t, tr, a, 4, 20)
	added(t, tr, a, 5, 15)
	for i, c := range []struct {
		b    block.Block
		want api.Errno
	}{
		{a, api.ErrTwice},
		{b, api.ErrTwice},
		{on(on(a, 7, 8), 9, 10), api.ErrParent},
		{block.Block{View: 9, Parent: 1}, api.ErrParent},
		{on(b, 4, 30), api.ErrView},
		{on(b, 3, 30), api.ErrView},
		{on(block.Genesis(), -1, 30), api.ErrView},
		{block.Block{View: 4, Parent: block.Digest(b), Lo: 99}, api.ErrView},
		{block.Block{View: 5, Parent: block.Digest(b), Lo: 21, Hi: 30}, api.ErrOrder},
		{block.Block{View: 5, Parent: block.Digest(b), Lo: 19, Hi: 30}, api.ErrOrder},
		{block.Block{View: 5, Parent: block.Digest(b), Lo: 10, Hi: 30}, api.ErrOrder},
		{block.Block{View: math.MaxInt, Parent: block.Digest(b), Lo: 20}, api.OK},
	} {
		n := tr.Len()
		e := tr.Add(c.b)
		if e != c.want || (e == api.OK) != (tr.Len() == n+1) {
			t.Errorf("P1701: case %d: %v, want %v", i, e, c.want)
		}
	}
	if got, ok := tr.Get(block.Digest(b)); !ok || block.Words(got) != block.Words(b) {
		t.Errorf("P1701: Get = %v, %v", got, ok)
	}
	if got, ok := tr.Get(1); ok || got.View != 0 || got.Hi != 0 {
		t.Errorf("P1701: Get of nothing = %v, %v", got, ok)
	}
}

func TestPathAndExtends(t *testing.T) {
	tr := tree.New()
	a := added(t, tr, block.Genesis(), 1, 10)
	b := added(t, tr, a, 2, 20)
	c := added(t, tr, b, 5, 30)
	side := added(t, tr, a, 6, 40)
	da, db, dc, ds := block.Digest(a), block.Digest(b), block.Digest(c), block.Digest(side)
	for d, want := range map[hash.Digest][]hash.Digest{
		0: {0}, da: {0, da}, db: {0, da, db}, dc: {0, da, db, dc}, ds: {0, da, ds}, 5: nil,
	} {
		got := tr.Path(d)
		if !slices.Equal(got, want) {
			t.Errorf("P1701: Path(%x) = %x", d, got)
		}
		for _, of := range []hash.Digest{0, da, db, dc, ds, 5} {
			if tr.Extends(d, of) != slices.Contains(want, of) {
				t.Errorf("P1701: Extends(%x, %x) = %v", d, of, tr.Extends(d, of))
			}
		}
	}
}

func TestCommit(t *testing.T) {
	tr := tree.New()
	a := added(t, tr, block.Genesis(), 1, 10)
	b := added(t, tr, a, 2, 20)
	c := added(t, tr, b, 3, 30)
	d := added(t, tr, c, 5, 40)
	e := added(t, tr, d, 6, 50)
	f := added(t, tr, e, 7, 60)
	gap := added(t, tr, c, 4, 35)
	none := hash.Digest(12345)
	for i, x := range []struct {
		of   hash.Digest
		want hash.Digest
		ok   bool
	}{
		{0, 0, false}, {none, 0, false},
		{block.Digest(a), 0, false}, {block.Digest(b), 0, false},
		{block.Digest(c), block.Digest(a), true},
		{block.Digest(d), 0, false}, {block.Digest(e), 0, false},
		{block.Digest(f), block.Digest(d), true},
		{block.Digest(gap), block.Digest(b), true},
	} {
		if got, ok := tr.Commit(x.of); got != x.want || ok != x.ok {
			t.Errorf("P1701: case %d: Commit = %x, %v", i, got, ok)
		}
	}
}

func TestCommitNeverTakesGenesis(t *testing.T) {
	tr := tree.New()
	a := added(t, tr, block.Genesis(), 1, 10)
	b := added(t, tr, a, 2, 20)
	if got, ok := tr.Commit(block.Digest(b)); got != 0 || ok {
		t.Errorf("P1701: Commit = %x, %v", got, ok)
	}
}

func TestTwin(t *testing.T) {
	tr := tree.New()
	a := added(t, tr, block.Genesis(), 1, 10)
	w := tr.Twin()
	b := added(t, tr, a, 2, 20)
	c := added(t, w, a, 3, 30)
	if tr.Len() != 3 || w.Len() != 3 {
		t.Errorf("P1701: Len %d and %d", tr.Len(), w.Len())
	}
	if _, ok := tr.Get(block.Digest(c)); ok {
		t.Error("P1701: the tree went along with its twin")
	}
	if _, ok := w.Get(block.Digest(b)); ok {
		t.Error("P1701: the twin went along")
	}
}

func TestNothingIsShared(t *testing.T) {
	tr := tree.New()
	b := on(block.Genesis(), 1, 10)
	b.QC.Votes = []block.Vote{{Who: 1, Sig: key.Sig{Path: []hash.Digest{7}}}}
	b.Reports = []cut.Report{{Who: 2, Sig: key.Sig{Path: []hash.Digest{8}}}}
	d := block.Digest(b)
	tr.Add(b)
	spoil := func(b block.Block) {
		b.QC.Votes[0].Sig.Path[0] = 0
		b.Reports[0].Who = 9
		b.Reports[0].Sig.Path[0] = 0
	}
	spoil(b)
	got, _ := tr.Get(d)
	spoil(got)
	got, _ = tr.Twin().Get(d)
	spoil(got)
	got, _ = tr.Get(d)
	if got.QC.Votes[0].Sig.Path[0] != 7 || got.Reports[0].Who != 2 || got.Reports[0].Sig.Path[0] != 8 {
		t.Error("P2: the tree shares memory with what it is given or gives")
	}
	tr.Path(d)[0] = 5
	if !slices.Equal(tr.Path(d), []hash.Digest{0, d}) {
		t.Error("P2: a path shares memory with the tree")
	}
}
