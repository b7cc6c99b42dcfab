package copyblock_test

import (
	"testing"

	"folkmoot/block"
	"folkmoot/copyblock"
	"folkmoot/copycert"
	"folkmoot/cut"
	"folkmoot/key"
	"folkmoot/msg"
	"folkmoot/sample"
)

// whole has blocks with all that blocks can have.
func whole() block.Block {
	s := sample.New(1, 4)
	a := s.Block(1, block.Genesis(), 10)
	return s.Block(2, a, 20, s.Cert(sample.Cmd(0), 15))
}

// paths has all signatures of a block whose memory it may share.
func paths(b block.Block) []key.Sig {
	var l []key.Sig
	for _, v := range b.QC.Votes {
		l = append(l, v.Sig)
	}
	for _, r := range b.Reports {
		l = append(l, r.Sig)
		for _, c := range r.Certs {
			for _, s := range c.Stamps {
				l = append(l, s.Sig)
			}
		}
	}
	return l
}

func same(a, b block.Block) bool { return msg.Same(msg.Msg{Block: a}, msg.Msg{Block: b}) }

func TestBlock(t *testing.T) {
	b := whole()
	c := copyblock.Block(b)
	if !same(b, c) {
		t.Fatal("the copy is another block")
	}
	for i, s := range paths(c) {
		s.Path[0]++
		if !same(b, whole()) {
			t.Fatalf("signature %d of the copy is shared", i)
		}
	}
	c.QC.Votes[0].Who++
	c.Reports[0].Who++
	c.Reports[1].Certs[0].C.Nonce++
	c.Reports[2].Certs[0].Stamps[0].At++
	if !same(b, whole()) {
		t.Error("a list of the copy is shared")
	}
}

func TestParts(t *testing.T) {
	b := whole()
	q, v, r := copyblock.QC(b.QC), copyblock.Vote(b.QC.Votes[0]), copyblock.Report(b.Reports[0])
	c, s, sig := copycert.Cert(r.Certs[0]), copycert.Stamp(r.Certs[0].Stamps[0]), copycert.Sig(r.Sig)
	if q.Block != b.QC.Block || len(q.Votes) != 3 || !key.Same(v.Sig, b.QC.Votes[0].Sig) || !cut.Same(r, b.Reports[0]) || !key.Same(sig, r.Sig) {
		t.Fatal("a copy is something else")
	}
	for i, path := range [][]key.Sig{{q.Votes[0].Sig, v.Sig}, {r.Sig, sig}, {r.Certs[0].Stamps[0].Sig, c.Stamps[0].Sig, s.Sig}} {
		for _, x := range path {
			x.Path[0]++
		}
		for _, x := range path {
			if x.Path[0] != path[0].Path[0] {
				t.Errorf("case %d: some are changed twice", i)
			}
		}
	}
	if !same(b, whole()) {
		t.Error("a part of the block is shared with its copy")
	}
}
