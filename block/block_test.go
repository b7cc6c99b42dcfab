package block_test

import (
	"math"
	"slices"
	"testing"

	"folkmoot/api"
	"folkmoot/block"
	"folkmoot/cut"
	"folkmoot/field"
	"folkmoot/hash"
	"folkmoot/key"
	"folkmoot/median"
	"folkmoot/sample"
	"folkmoot/stamp"
)

func TestGenesis(t *testing.T) {
	g := block.Genesis()
	if g.View != 0 || g.Parent != 0 || g.QC.View != 0 || g.QC.Block != 0 || len(g.QC.Votes) != 0 || g.Lo != 0 || g.Hi != 0 || len(g.Reports) != 0 {
		t.Errorf("P1601: Genesis = %v", g)
	}
	if d := block.Digest(g); d != 0 {
		t.Errorf("P1601: the Digest of Genesis is %x", d)
	}
	if d := block.Digest(block.Block{Parent: 5, Hi: 7}); d != 0 {
		t.Errorf("P1601: the Digest in the View 0 is %x", d)
	}
	if got := block.Words(g); got != "|block|0|0000000000000000|0|0000000000000000|0|0" {
		t.Errorf("P1601: Words of Genesis = %q", got)
	}
}

func TestWords(t *testing.T) {
	r := []cut.Report{{Who: 3, Lo: 1}, {Who: 2, Hi: 9}}
	b := block.Block{View: 5, Parent: 77, QC: block.QC{View: 4, Block: 78, Votes: []block.Vote{{Who: 1}}}, Lo: 6, Hi: 8, Reports: r}
	want := "|block|5|000000000000004d|4|000000000000004e|6|8|" + hash.Text(cut.Digest(r[0])) + "|" + hash.Text(cut.Digest(r[1]))
	if got := block.Words(b); got != want {
		t.Errorf("P1601: Words = %q", got)
	}
	if got := block.Digest(b); got != hash.Of("block", want) {
		t.Errorf("P1601: Digest = %x", got)
	}
	b.QC.Votes = nil
	if block.Words(b) != want {
		t.Error("P1601: the votes are in the Words")
	}
	b.View = -1
	if block.Digest(b) != hash.Of("block", block.Words(b)) {
		t.Error("P1601: the Digest of a negative view")
	}
}

func TestBatch(t *testing.T) {
	cert := func(nonce int, at int64) median.Cert {
		return median.Cert{C: sample.Cmd(nonce), Stamps: []stamp.Stamp{{At: at}}}
	}
	x, y, z := cert(0, 5), cert(1, 6), cert(2, 7)
	b := block.Block{Reports: []cut.Report{{Certs: []median.Cert{y, z}}, {Certs: []median.Cert{x, y}}}}
	if got := block.Batch(b); !slices.EqualFunc(got, []median.Cert{x, y, z}, median.Same) {
		t.Errorf("P1601: Batch = %v", got)
	}
	if got := block.Batch(block.Genesis()); len(got) != 0 {
		t.Errorf("P1601: Batch of Genesis = %v", got)
	}
}

func TestVotes(t *testing.T) {
	if got := block.VoteWords(7, 99); got != "|vote|7|0000000000000063" {
		t.Errorf("P1601: VoteWords = %q", got)
	}
	if got := block.VoteDigest(7, 99); got != hash.Of("vote", "|vote|7|0000000000000063") {
		t.Errorf("P1601: VoteDigest = %x", got)
	}
	s := sample.New(1, 3)
	v, e := block.MakeVote(s.Key[2], 2, 7, 99)
	if e != api.OK || v.View != 7 || v.Block != 99 || v.Who != 2 || v.Sig.Leaf != 0 || block.ValidVote(s.Keys, v) != api.OK {
		t.Errorf("P1601: MakeVote = %v, %v", v, e)
	}
	if v, e := block.MakeVote(s.Key[2], 1, 0, 99); e != api.OK || v.Who != 1 || v.View != 0 {
		t.Errorf("P1601: MakeVote looks at the view: %v", e)
	}
	s.Key[2].Skip(8)
	if v, e := block.MakeVote(s.Key[2], 2, 7, 99); e != api.ErrSpent || v.View != 0 || v.Block != 0 || v.Who != 0 || !key.Same(v.Sig, key.Sig{}) {
		t.Errorf("P1601: MakeVote with a spent key = %v, %v", v, e)
	}
}

func TestValidVote(t *testing.T) {
	s := sample.New(1, 3)
	good := s.Vote(2, 7, 99)
	short := s.Keys
	short.Roots = short.Roots[:2]
	for i, c := range []struct {
		k      stamp.Keys
		change func(*block.Vote)
		want   api.Errno
	}{
		{s.Keys, func(v *block.Vote) {}, api.OK},
		{s.Keys, func(v *block.Vote) { *v = s.Vote(3, 1, 0) }, api.OK},
		{s.Keys, func(v *block.Vote) { *v = s.Vote(0, api.MaxView, 5) }, api.OK},
		{s.Keys, func(v *block.Vote) { *v = s.Vote(2, 0, 99) }, api.ErrArg},
		{s.Keys, func(v *block.Vote) { *v = s.Vote(2, -1, 99) }, api.ErrArg},
		{s.Keys, func(v *block.Vote) { *v = s.Vote(2, api.MaxView+1, 99) }, api.ErrArg},
		{s.Keys, func(v *block.Vote) { v.Who = 4 }, api.ErrArg},
		{s.Keys, func(v *block.Vote) { v.Who = -1 }, api.ErrArg},
		{s.Keys, func(v *block.Vote) { v.Who = 1 }, api.ErrSig},
		{s.Keys, func(v *block.Vote) { v.Sig.Who = 1 }, api.ErrSig},
		{s.Keys, func(v *block.Vote) { v.Who, v.Sig.Who = 1, 1 }, api.ErrSig},
		{s.Keys, func(v *block.Vote) { v.View++ }, api.ErrSig},
		{s.Keys, func(v *block.Vote) { v.Block++ }, api.ErrSig},
		{short, func(v *block.Vote) {}, api.ErrSig},
	} {
		v := good
		c.change(&v)
		if e := block.ValidVote(c.k, v); e != c.want {
			t.Errorf("P1601: case %d: %v, want %v", i, e, c.want)
		}
	}
}

func whos(q block.QC) []int { return field.Map(q.Votes, func(v block.Vote) int { return v.Who }) }

func TestGather(t *testing.T) {
	s := sample.New(1, 4)
	l := s.Votes(4, 7, 99)
	again := s.Vote(1, 7, 99)
	broken := l[0]
	broken.Sig.One[0]++
	strange := []block.Vote{s.Vote(0, 8, 99), s.Vote(0, 7, 98), broken}
	got, e := block.Gather(s.Keys, 7, 99, append(strange, l[3], l[1], again, l[2], l[0]))
	if e != api.OK || got.View != 7 || got.Block != 99 || !slices.Equal(whos(got), []int{0, 1, 2}) || got.Votes[1].Sig.Leaf != l[1].Sig.Leaf {
		t.Fatalf("P1601: Gather = %v, %v", whos(got), e)
	}
	if e := block.ValidQC(s.Keys, got); e != api.OK {
		t.Errorf("P1601: what was gathered is not valid: %v", e)
	}
	for _, few := range [][]block.Vote{nil, l[:2], append(strange, l[1], l[2], l[2])} {
		if got, e := block.Gather(s.Keys, 7, 99, few); e != api.ErrFew || got.View != 0 || got.Block != 0 || len(got.Votes) != 0 {
			t.Errorf("P1601: Gather of too few = %v, %v", got, e)
		}
	}
	got.Votes[0].Sig.Path[0]++
	if block.ValidVote(s.Keys, l[0]) != api.OK {
		t.Error("P2: the QC shares memory with the votes")
	}
}

func TestValidQC(t *testing.T) {
	s := sample.New(1, 4)
	l := s.Votes(4, 7, 99)
	broken := l[1]
	broken.Sig.One[0]++
	alien := l[3]
	alien.Who = 4
	for i, c := range []struct {
		view  int
		block hash.Digest
		l     []block.Vote
		want  api.Errno
	}{
		{0, 0, nil, api.OK},
		{0, 1, nil, api.ErrArg},
		{0, 0, l[:3], api.ErrArg},
		{0, 0, l[:1], api.ErrArg},
		{7, 99, l[:3], api.OK},
		{7, 99, l[1:], api.OK},
		{7, 99, nil, api.ErrFew},
		{7, 99, l[:2], api.ErrFew},
		{7, 99, l, api.ErrFew},
		{-1, 0, nil, api.ErrFew},
		{7, 99, []block.Vote{l[0], l[2], l[1]}, api.ErrOrder},
		{7, 99, []block.Vote{l[0], l[1], l[1]}, api.ErrOrder},
		{8, 99, l[:3], api.ErrView},
		{7, 98, l[:3], api.ErrView},
		{7, 99, []block.Vote{l[0], s.Vote(1, 6, 99), l[2]}, api.ErrView},
		{7, 99, []block.Vote{l[0], s.Vote(1, 7, 98), l[2]}, api.ErrView},
		{7, 99, []block.Vote{l[0], broken, l[2]}, api.ErrSig},
		{7, 99, []block.Vote{l[0], l[1], alien}, api.ErrArg},
		{-1, 99, s.Votes(3, -1, 99), api.ErrArg},
		{7, 99, []block.Vote{l[0], broken, l[1]}, api.ErrSig},
		{7, 99, []block.Vote{l[2], s.Vote(1, 6, 99), broken}, api.ErrOrder},
	} {
		if e := block.ValidQC(s.Keys, block.QC{View: c.view, Block: c.block, Votes: c.l}); e != c.want {
			t.Errorf("P1601: case %d: %v, want %v", i, e, c.want)
		}
	}
}

func TestValid(t *testing.T) {
	s := sample.New(1, 7)
	c := s.Cert(sample.Cmd(0), 15)
	first := s.Block(1, block.Genesis(), 10)
	good := s.Block(4, first, 20, c)
	reports := func(l ...cut.Report) func(*block.Block) {
		return func(b *block.Block) { b.Reports = l }
	}
	r := good.Reports
	forged := s.Report(1, 10, 20, c)
	forged.Certs = nil
	for i, x := range []struct {
		change func(*block.Block)
		want   api.Errno
	}{
		{func(b *block.Block) {}, api.OK},
		{func(b *block.Block) { *b = first }, api.OK},
		{func(b *block.Block) { b.View = 2 }, api.OK},
		{func(b *block.Block) { b.View = api.MaxView }, api.OK},
		{func(b *block.Block) { *b = s.Block(4, first, api.MaxTime) }, api.OK},
		{func(b *block.Block) { *b = s.Block(4, first, 11) }, api.OK},
		{func(b *block.Block) { b.View = 0 }, api.ErrView},
		{func(b *block.Block) { b.View = -1 }, api.ErrView},
		{func(b *block.Block) { b.View, b.QC.View = -1, -2 }, api.ErrView},
		{func(b *block.Block) { b.View = 1 }, api.ErrView},
		{func(b *block.Block) { b.View = api.MaxView + 1 }, api.ErrView},
		{func(b *block.Block) { *b = block.Genesis() }, api.ErrView},
		{func(b *block.Block) { b.Parent++; b.View = 1 }, api.ErrView},
		{func(b *block.Block) { b.Parent++; b.QC.Votes = nil }, api.ErrParent},
		{func(b *block.Block) { b.QC.Block++ }, api.ErrParent},
		{func(b *block.Block) { b.QC.Votes = b.QC.Votes[1:]; b.Lo = -1 }, api.ErrFew},
		{func(b *block.Block) { b.QC.View = 3 }, api.ErrView},
		{func(b *block.Block) { b.QC.View = 0; b.QC.Votes = nil }, api.ErrArg},
		{func(b *block.Block) { b.Lo = -1; b.Reports = nil }, api.ErrArg},
		{func(b *block.Block) { b.Hi = 10; b.Reports = nil }, api.ErrArg},
		{func(b *block.Block) { b.Hi = 9; b.Reports = nil }, api.ErrArg},
		{func(b *block.Block) { b.Hi = api.MaxTime + 1; b.Reports = nil }, api.ErrArg},
		{func(b *block.Block) { b.Hi = math.MinInt64 }, api.ErrArg},
		{reports(), api.ErrFew},
		{reports(r[:2]...), api.ErrFew},
		{reports(r[0], r[1], r[2], s.Report(3, 10, 20)), api.ErrFew},
		{reports(r[0], r[2], s.Report(3, 10, 20)), api.OK},
		{reports(r[0], r[2], r[1]), api.ErrOrder},
		{reports(r[0], r[1], r[1]), api.ErrOrder},
		{reports(r[0], s.Report(1, 9, 20), r[2]), api.ErrBatch},
		{reports(r[0], s.Report(1, 10, 21), r[2]), api.ErrBatch},
		{func(b *block.Block) { b.Hi = 21 }, api.ErrBatch},
		{reports(r[0], forged, r[2]), api.ErrSig},
		{reports(r[0], s.Report(1, 10, 20, c, c), r[2]), api.ErrOrder},
		{reports(r[0], s.Report(1, 10, 20, s.Cert(sample.Cmd(1), 10)), r[2]), api.ErrLate},
		{reports(r[2], s.Report(1, 9, 20), forged), api.ErrOrder},
		{reports(r[0], forged, r[1]), api.ErrSig},
	} {
		b := good
		x.change(&b)
		if e := block.Valid(s.Keys, b); e != x.want {
			t.Errorf("P1601: case %d: %v, want %v", i, e, x.want)
		}
	}
}
