package msg_test

import (
	"math"
	"testing"

	"folkmoot/ack"
	"folkmoot/api"
	"folkmoot/block"
	"folkmoot/cmd"
	"folkmoot/cut"
	"folkmoot/hash"
	"folkmoot/key"
	"folkmoot/median"
	"folkmoot/msg"
	"folkmoot/pace"
	"folkmoot/stamp"
)

func sig() key.Sig { return key.Sig{Who: 1, Leaf: 2, Path: []hash.Digest{3, 4}} }

func cert() median.Cert { return median.Cert{Stamps: []stamp.Stamp{{At: 5, Sig: sig()}}} }

func report() cut.Report { return cut.Report{Who: 1, Certs: []median.Cert{cert()}, Sig: sig()} }

func qc() block.QC { return block.QC{View: 3, Votes: []block.Vote{{View: 3, Sig: sig()}}} }

func whole() block.Block { return block.Block{View: 4, QC: qc(), Reports: []cut.Report{report()}} }

// full has something in every field.
func full() msg.Msg {
	return msg.Msg{
		Kind: msg.Propose, From: 1, To: 2, Cmd: cmd.Cmd{Client: 3}, Stamp: stamp.Stamp{Who: 1, Sig: sig()},
		Cert: cert(), Ack: ack.Ack{Who: 2, Sig: sig()}, Lo: 5, Hi: 6, Report: report(), Block: whole(),
		Vote: block.Vote{View: 7, Sig: sig()}, View: pace.NewView{View: 8, High: qc(), Sig: sig()},
		Chain: []block.Block{whole(), whole()},
	}
}

// changes has one change of each part, those that share memory with the original included.
func changes() []func(*msg.Msg) {
	return []func(*msg.Msg){
		func(m *msg.Msg) { m.Kind++ }, func(m *msg.Msg) { m.From++ }, func(m *msg.Msg) { m.To++ },
		func(m *msg.Msg) { m.Cmd.Amount++ }, func(m *msg.Msg) { m.Lo++ }, func(m *msg.Msg) { m.Hi++ },
		func(m *msg.Msg) { m.Stamp.At++ }, func(m *msg.Msg) { m.Stamp.Sig.Path[0]++ },
		func(m *msg.Msg) { m.Cert.C.Nonce++ }, func(m *msg.Msg) { m.Cert.Stamps[0].At++ }, func(m *msg.Msg) { m.Cert.Stamps[0].Sig.Path[1]++ },
		func(m *msg.Msg) { m.Ack.Cert++ }, func(m *msg.Msg) { m.Ack.Who++ }, func(m *msg.Msg) { m.Ack.Sig.Path[0]++ },
		func(m *msg.Msg) { m.Report.Lo++ }, func(m *msg.Msg) { m.Report.Sig.Path[0]++ },
		func(m *msg.Msg) { m.Report.Certs[0].Stamps[0].Who++ }, func(m *msg.Msg) { m.Report.Certs[0].Stamps[0].Sig.Path[0]++ },
		func(m *msg.Msg) { m.Block.View++ }, func(m *msg.Msg) { m.Block.Parent++ }, func(m *msg.Msg) { m.Block.Lo++ }, func(m *msg.Msg) { m.Block.Hi++ },
		func(m *msg.Msg) { m.Block.QC.View++ }, func(m *msg.Msg) { m.Block.QC.Block++ }, func(m *msg.Msg) { m.Block.QC.Votes[0].Who++ },
		func(m *msg.Msg) { m.Block.QC.Votes[0].Sig.Path[0]++ }, func(m *msg.Msg) { m.Block.QC.Votes = nil },
		func(m *msg.Msg) { m.Block.Reports = nil }, func(m *msg.Msg) { m.Block.Reports[0].Hi++ },
		func(m *msg.Msg) { m.Block.Reports[0].Certs[0].Stamps[0].Sig.Path[0]++ },
		func(m *msg.Msg) { m.Vote.View++ }, func(m *msg.Msg) { m.Vote.Block++ }, func(m *msg.Msg) { m.Vote.Who++ }, func(m *msg.Msg) { m.Vote.Sig.Path[0]++ },
		func(m *msg.Msg) { m.View.View++ }, func(m *msg.Msg) { m.View.Who++ }, func(m *msg.Msg) { m.View.Sig.Path[0]++ },
		func(m *msg.Msg) { m.View.High.View++ }, func(m *msg.Msg) { m.View.High.Votes[0].Sig.Path[0]++ },
		func(m *msg.Msg) { m.Chain = m.Chain[:1] }, func(m *msg.Msg) { m.Chain = append(m.Chain, block.Block{}) },
		func(m *msg.Msg) { m.Chain[1].View++ }, func(m *msg.Msg) { m.Chain[0].QC.Votes[0].Sig.Path[0]++ },
		func(m *msg.Msg) { m.Chain[1].Reports[0].Sig.Path[0]++ },
	}
}

func TestCheck(t *testing.T) {
	for i, c := range []struct {
		kind, from, to, chain, n int
		want                     api.Errno
	}{
		{1, 0, 0, 0, 4, api.OK}, {9, 4, 4, 256, 4, api.OK}, {5, 3, 4, 1, 4, api.OK}, {5, 0, 0, 0, 0, api.OK},
		{0, 0, 0, 0, 4, api.ErrArg}, {10, 0, 0, 0, 4, api.ErrArg}, {-1, 0, 0, 0, 4, api.ErrArg},
		{1, -1, 0, 0, 4, api.ErrArg}, {1, 5, 0, 0, 4, api.ErrArg}, {1, 0, -1, 0, 4, api.ErrArg}, {1, 0, 5, 0, 4, api.ErrArg},
		{1, 0, 0, 0, -1, api.ErrArg}, {1, 0, 0, 257, 4, api.ErrLong}, {1, 5, 0, 257, 4, api.ErrArg},
		{math.MaxInt, math.MinInt, math.MaxInt, 0, 4, api.ErrArg},
	} {
		m := msg.Msg{Kind: c.kind, From: c.from, To: c.to, Chain: make([]block.Block, c.chain)}
		if e := msg.Check(m, c.n); e != c.want {
			t.Errorf("P2201: case %d: %v, want %v", i, e, c.want)
		}
	}
}

func TestSame(t *testing.T) {
	if !msg.Same(full(), full()) || !msg.Same(msg.Msg{}, msg.Msg{}) {
		t.Error("P2201: equal messages are not Same")
	}
	empty := msg.Msg{
		Cert: median.Cert{Stamps: []stamp.Stamp{}}, Chain: []block.Block{},
		Block: block.Block{Reports: []cut.Report{}, QC: block.QC{Votes: []block.Vote{}}},
		Vote:  block.Vote{Sig: key.Sig{Path: []hash.Digest{}}},
	}
	if !msg.Same(msg.Msg{}, empty) || !msg.Same(empty, msg.Msg{}) {
		t.Error("P2201: nil and empty slices are not equal")
	}
	for i, change := range changes() {
		m := full()
		change(&m)
		if msg.Same(m, full()) || msg.Same(full(), m) {
			t.Errorf("P2201: change %d is not seen", i)
		}
	}
}

func TestWord(t *testing.T) {
	for kind, want := range map[int]string{
		msg.Ask: "ask", msg.Stamped: "stamped", msg.Certify: "certify", msg.Acked: "acked", msg.Close: "close",
		msg.Closed: "closed", msg.Propose: "propose", msg.Voted: "voted", msg.Next: "next",
		0: "", 10: "", -1: "", math.MaxInt: "", math.MinInt: "",
	} {
		if got := msg.Word(kind); got != want {
			t.Errorf("P2201: Word(%d) = %q", kind, got)
		}
	}
	if msg.Ask != 1 || msg.Next != 9 {
		t.Error("P2201: the kinds have other numbers")
	}
}

func TestAll(t *testing.T) {
	l := msg.All(2, 3, full())
	if len(l) != 3 {
		t.Fatalf("P2201: All has %d messages", len(l))
	}
	for to, m := range l {
		want := full()
		want.From, want.To = 2, to
		if !msg.Same(m, want) {
			t.Errorf("P2201: message %d is another one", to)
		}
	}
	for _, n := range []int{0, -1, math.MinInt} {
		if len(msg.All(2, n, full())) != 0 {
			t.Errorf("P2201: All to %d", n)
		}
	}
}

func TestAllSharesNothing(t *testing.T) {
	for i, change := range changes() {
		m := full()
		l := msg.All(1, 2, m)
		kept := msg.All(1, 1, m)[0]
		change(&l[1])
		if !msg.Same(m, full()) || !msg.Same(l[0], kept) {
			t.Errorf("P2: change %d of one message changed another one", i)
		}
	}
}
