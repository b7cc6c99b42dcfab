package memo_test

import (
	"math"
	"slices"
	"testing"

	"folkmoot/api"
	"folkmoot/block"
	"folkmoot/cut"
	"folkmoot/field"
	"folkmoot/hash"
	"folkmoot/key"
	"folkmoot/median"
	"folkmoot/memo"
	"folkmoot/sample"
	"folkmoot/stamp"
)

// cert is not signed: the state does not look at signatures.
func cert(nonce int, at int64) median.Cert {
	return median.Cert{C: sample.Cmd(nonce), Stamps: []stamp.Stamp{{At: at}}}
}

func qc(b block.Block) block.QC { return block.QC{View: b.View, Block: block.Digest(b)} }

func on(parent block.Block, view int, hi int64, certs ...median.Cert) block.Block {
	return block.Block{
		View: view, Parent: block.Digest(parent), QC: qc(parent), Lo: parent.Hi, Hi: hi,
		Reports: []cut.Report{{Certs: certs}},
	}
}

func made(t *testing.T) *memo.State {
	t.Helper()
	s, e := memo.New(3, []int64{10, 20})
	if e != api.OK {
		t.Fatalf("P2301: New = %v", e)
	}
	return s
}

func applied(t *testing.T, s *memo.State, l ...memo.Rec) {
	t.Helper()
	for i, r := range l {
		if e := s.Apply(r); e != api.OK {
			t.Fatalf("P2301: record %d of kind %d: %v", i, r.Kind, e)
		}
	}
}

func add(b block.Block) memo.Rec { return memo.Rec{Kind: memo.Block, Block: b} }

func see(q block.QC) memo.Rec { return memo.Rec{Kind: memo.Quorum, QC: q} }

func TestNew(t *testing.T) {
	s := made(t)
	if s.Leaf() != 0 || s.Floor() != 0 || s.View() != 1 || s.Pool().Len() != 0 || s.Pool().Floor() != 0 ||
		s.Tree().Len() != 1 || s.Safe().Voted != 0 || s.Safe().High.View != 0 || s.Log().Blocks() != 0 || s.Log().Book().Has[1] != 20 {
		t.Error("P2301: a new state is not new")
	}
	for i, c := range []struct {
		room     int
		accounts []int64
		want     api.Errno
	}{
		{0, []int64{1}, api.ErrArg}, {65, nil, api.ErrArg}, {0, make([]int64, 17), api.ErrArg},
		{1, make([]int64, 17), api.ErrLong}, {64, []int64{-1}, api.ErrArg},
	} {
		if s, e := memo.New(c.room, c.accounts); s != nil || e != c.want {
			t.Errorf("P2301: case %d: New = %v", i, e)
		}
		if s, e := memo.Fold(c.room, c.accounts, nil); s != nil || e != c.want {
			t.Errorf("P2301: case %d: Fold = %v", i, e)
		}
	}
}

func TestNumbers(t *testing.T) {
	s := made(t)
	for i, c := range []struct {
		kind              int
		n                 int64
		leaf, view, voted int
		floor, closed     int64
	}{
		{memo.Leaf, 8, 8, 1, 0, 0, 0}, {memo.Leaf, 4, 8, 1, 0, 0, 0}, {memo.Leaf, -1, 8, 1, 0, 0, 0}, {memo.Leaf, 9, 9, 1, 0, 0, 0},
		{memo.View, 1, 9, 1, 0, 0, 0}, {memo.View, 5, 9, 5, 0, 0, 0}, {memo.View, 4, 9, 5, 0, 0, 0},
		{memo.Issue, 30, 9, 5, 0, 30, 0}, {memo.Issue, 20, 9, 5, 0, 30, 0}, {memo.Issue, math.MinInt64, 9, 5, 0, 30, 0},
		{memo.Shut, 25, 9, 5, 0, 30, 25}, {memo.Shut, 20, 9, 5, 0, 30, 25}, {memo.Shut, 40, 9, 5, 0, 40, 40},
		{memo.Issue, 41, 9, 5, 0, 41, 40},
		{memo.Vote, 3, 9, 5, 3, 41, 40}, {memo.Vote, 2, 9, 5, 3, 41, 40}, {memo.Vote, 4, 9, 5, 4, 41, 40},
	} {
		applied(t, s, memo.Rec{Kind: c.kind, N: c.n})
		if s.Leaf() != c.leaf || s.View() != c.view || s.Safe().Voted != c.voted || s.Floor() != c.floor || s.Pool().Floor() != c.closed {
			t.Errorf("P2301: case %d: %d, %d, %d, %d, %d", i, s.Leaf(), s.View(), s.Safe().Voted, s.Floor(), s.Pool().Floor())
		}
	}
	for _, kind := range []int{0, 9, -1, math.MaxInt} {
		if e := s.Apply(memo.Rec{Kind: kind, N: 99}); e != api.ErrArg {
			t.Errorf("P2301: kind %d: %v", kind, e)
		}
	}
}

func TestCert(t *testing.T) {
	s := made(t)
	rec := func(nonce int, at int64) memo.Rec { return memo.Rec{Kind: memo.Cert, Cert: cert(nonce, at)} }
	applied(t, s, rec(0, 30), memo.Rec{Kind: memo.Shut, N: 20}, rec(1, 25))
	for i, c := range []struct {
		r    memo.Rec
		want api.Errno
	}{{rec(2, 20), api.ErrLate}, {rec(0, 30), api.ErrTwice}, {rec(2, 21), api.OK}, {rec(3, 99), api.ErrFull}} {
		if e := s.Apply(c.r); e != c.want {
			t.Errorf("P2301: case %d: %v, want %v", i, e, c.want)
		}
	}
	if got := field.Map(s.Pool().All(), median.At); !slices.Equal(got, []int64{21, 25, 30}) {
		t.Errorf("P2301: the pool has %v", got)
	}
}

func TestBlocksAndQuorums(t *testing.T) {
	s := made(t)
	a := on(block.Genesis(), 1, 10, cert(0, 5))
	b := on(a, 2, 20, cert(1, 15))
	c := on(b, 3, 30, cert(2, 25))
	d := on(c, 4, 40)
	applied(t, s, memo.Rec{Kind: memo.Cert, Cert: cert(0, 5)}, memo.Rec{Kind: memo.Cert, Cert: cert(1, 15)}, memo.Rec{Kind: memo.Cert, Cert: cert(2, 25)})
	if e := s.Apply(add(b)); e != api.ErrParent || s.Tree().Len() != 1 || s.Safe().High.View != 0 {
		t.Errorf("P2301: a block without its parent: %v", e)
	}
	applied(t, s, add(a), add(b), add(c))
	if f := s.Safe(); f.High.View != 2 || f.Locked.View != 1 || f.Voted != 0 || s.Log().Blocks() != 0 || s.Pool().Len() != 3 {
		t.Errorf("P2301: after three blocks: %v, %d", f, s.Log().Blocks())
	}
	if e := s.Apply(add(c)); e != api.ErrTwice {
		t.Errorf("P2301: a block again: %v", e)
	}
	applied(t, s, see(qc(c)))
	if f := s.Safe(); f.High.View != 3 || f.Locked.View != 2 {
		t.Errorf("P2301: after the quorum: %v", f)
	}
	if x := s.Log(); x.Blocks() != 1 || x.Hi() != 10 || len(x.Entries()) != 1 || s.Pool().Len() != 2 {
		t.Errorf("P2301: the first block is not executed: %d, %d, %d", x.Blocks(), x.Hi(), s.Pool().Len())
	}
	applied(t, s, add(d), see(qc(c)), see(qc(d)))
	if x := s.Log(); x.Blocks() != 2 || x.Hi() != 20 || len(x.Entries()) != 2 || s.Pool().Len() != 1 {
		t.Errorf("P2301: the second block is not executed: %d, %d, %d", x.Blocks(), x.Hi(), s.Pool().Len())
	}
	if got := field.Map(s.Pool().All(), median.At); !slices.Equal(got, []int64{25}) {
		t.Errorf("P2301: the pool has %v", got)
	}
}

func TestACommitRunsAllBelow(t *testing.T) {
	s := made(t)
	a := on(block.Genesis(), 1, 10, cert(0, 5))
	b := on(a, 3, 20, cert(1, 15))
	c := on(b, 5, 30)
	d := on(c, 6, 40)
	e := on(d, 7, 50)
	applied(t, s, add(a), add(b), add(c), add(d), add(e))
	if s.Log().Blocks() != 0 {
		t.Errorf("P2301: %d blocks are executed without consecutive views", s.Log().Blocks())
	}
	applied(t, s, add(on(e, 9, 60)))
	if x := s.Log(); x.Blocks() != 3 || x.Hi() != 30 || len(x.Entries()) != 2 {
		t.Errorf("P2301: %d blocks are executed, up to %d", x.Blocks(), x.Hi())
	}
	if f := s.Safe(); f.High.View != 7 || f.Locked.View != 6 {
		t.Errorf("P2301: the QC of a block is not seen: %v", f)
	}
}

func TestAQuorumForAnUnknownBlock(t *testing.T) {
	s := made(t)
	applied(t, s, see(block.QC{View: 4, Block: 99}))
	if f := s.Safe(); f.High.View != 4 || f.High.Block != 99 || f.Locked.View != 0 || s.Log().Blocks() != 0 {
		t.Errorf("P2301: %v", f)
	}
}

func TestACommitBesideWhatWasRun(t *testing.T) {
	s := made(t)
	chain := func(from block.Block, view int, hi int64) block.Block {
		var b block.Block
		for range 3 {
			b = on(from, view, hi)
			applied(t, s, add(b))
			from, view, hi = b, view+1, hi+7
		}
		return b
	}
	applied(t, s, see(qc(chain(block.Genesis(), 1, 10))))
	applied(t, s, see(qc(chain(block.Genesis(), 11, 12))))
	if x := s.Log(); x.Blocks() != 1 || x.Hi() != 10 {
		t.Errorf("P2301: %d blocks, up to %d", x.Blocks(), x.Hi())
	}
}

func TestACommitStopsAtTheFirstError(t *testing.T) {
	s := made(t)
	a := on(block.Genesis(), 1, 10)
	b := on(a, 2, 20)
	c := on(b, 3, 30)
	applied(t, s, add(a), add(b), add(c), see(qc(c)))
	// Beside a stands a chain of which the third block would follow again.
	l := []block.Block{on(block.Genesis(), 11, 12)}
	for i, hi := range []int64{10, 40, 50, 60} {
		l = append(l, on(l[i], 12+i, hi))
	}
	for _, b := range l {
		applied(t, s, add(b))
	}
	applied(t, s, see(qc(l[4])))
	if x := s.Log(); x.Blocks() != 1 || x.Hi() != 10 {
		t.Errorf("P2301: %d blocks are executed, up to %d", x.Blocks(), x.Hi())
	}
}

func TestWhatIsAcceptedLateIsDroppedWithACommit(t *testing.T) {
	s := made(t)
	a := on(block.Genesis(), 1, 10)
	b := on(a, 2, 20)
	c := on(b, 3, 30)
	applied(t, s, add(a), add(b), add(c), see(qc(c)), memo.Rec{Kind: memo.Cert, Cert: cert(0, 5)})
	applied(t, s, see(block.QC{View: 9, Block: 99}), see(qc(a)), see(block.QC{}))
	if s.Pool().Len() != 1 {
		t.Error("P2301: a certificate is dropped without a commit")
	}
	applied(t, s, see(qc(c)))
	if s.Pool().Len() != 0 || s.Log().Blocks() != 1 {
		t.Error("P2301: a certificate is not dropped with a commit")
	}
}

func TestFold(t *testing.T) {
	a := on(block.Genesis(), 1, 10, cert(0, 5))
	b := on(a, 2, 20)
	l := []memo.Rec{
		{Kind: memo.Leaf, N: 8}, {Kind: 77}, {Kind: memo.Cert, Cert: cert(0, 5)}, {Kind: memo.Cert, Cert: cert(0, 5)},
		add(b), add(a), add(b), {Kind: memo.Issue, N: 6}, {Kind: memo.Vote, N: 2}, {Kind: memo.View, N: 3}, add(on(b, 3, 30)),
		see(qc(on(b, 3, 30))),
	}
	s, e := memo.Fold(3, []int64{10, 20}, l)
	if e != api.OK || s.Leaf() != 8 || s.Floor() != 6 || s.View() != 3 || s.Safe().Voted != 2 || s.Tree().Len() != 4 || s.Log().Blocks() != 1 || s.Pool().Len() != 0 {
		t.Errorf("P2301: Fold = %v", e)
	}
	if s, e := memo.Fold(3, []int64{10}, nil); e != api.OK || s.View() != 1 {
		t.Errorf("P2301: Fold of nothing = %v", e)
	}
}

func TestTwin(t *testing.T) {
	s := made(t)
	a := on(block.Genesis(), 1, 10)
	applied(t, s, add(a), memo.Rec{Kind: memo.Leaf, N: 3})
	w := s.Twin()
	applied(t, s, add(on(a, 2, 20)), memo.Rec{Kind: memo.Cert, Cert: cert(0, 5)}, memo.Rec{Kind: memo.Shut, N: 9}, memo.Rec{Kind: memo.Leaf, N: 5}, memo.Rec{Kind: memo.Vote, N: 5}, memo.Rec{Kind: memo.View, N: 5})
	if w.Tree().Len() != 2 || w.Pool().Len() != 0 || w.Pool().Floor() != 0 || w.Floor() != 0 || w.Leaf() != 3 || w.Safe().Voted != 0 || w.View() != 1 || w.Safe().High.View != 0 {
		t.Error("P2301: the twin went along")
	}
	applied(t, w, add(on(a, 3, 30)))
	if s.Tree().Len() != 3 || s.Safe().High.View != 1 {
		t.Error("P2301: the state went along with its twin")
	}
}

func TestPartsAreCopies(t *testing.T) {
	s := made(t)
	q := block.QC{View: 4, Block: 99, Votes: []block.Vote{{Sig: key.Sig{Path: []hash.Digest{7}}}}}
	applied(t, s, see(q))
	a := on(block.Genesis(), 1, 10)
	a.QC = q
	applied(t, s, add(a), see(qc(a)))
	q.Votes[0].Sig.Path[0] = 0
	s.Safe().High.Votes[0].Sig.Path[0] = 0
	s.Safe().Locked.Votes[0].Sig.Path[0] = 0
	s.Pool().Close(50)
	s.Tree().Add(on(block.Genesis(), 2, 10))
	s.Log().Run(on(block.Genesis(), 1, 10))
	if f := s.Safe(); f.High.Votes[0].Sig.Path[0] != 7 || f.Locked.Votes[0].Sig.Path[0] != 7 || s.Pool().Floor() != 0 || s.Tree().Len() != 2 || s.Log().Blocks() != 0 {
		t.Error("P2: a part of the state is not a copy")
	}
}
