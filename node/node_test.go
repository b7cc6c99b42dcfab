package node_test

import (
	"slices"
	"testing"

	"folkmoot/ack"
	"folkmoot/api"
	"folkmoot/block"
	"folkmoot/cmd"
	"folkmoot/cut"
	"folkmoot/field"
	"folkmoot/hash"
	"folkmoot/key"
	"folkmoot/median"
	"folkmoot/memo"
	"folkmoot/msg"
	"folkmoot/node"
	"folkmoot/pace"
	"folkmoot/quorum"
	"folkmoot/sample"
	"folkmoot/stamp"
)

const client = 4 // the number of the client, for F = 1

func conf(s sample.Set, who int) node.Conf {
	return node.Conf{
		Keys: s.Keys, Who: who, Seed: sample.Seed + uint64(who), Lease: 4, Wait: 3, Margin: 10,
		Room: 8, Disk: 1000, Accounts: []int64{100, 100},
	}
}

func made(t *testing.T, c node.Conf, at int64) *node.Node {
	t.Helper()
	n, e := node.New(c, at)
	if e != api.OK {
		t.Fatalf("P2401: New = %v", e)
	}
	return n
}

// in has the answer to a message that must be taken.
func in(t *testing.T, n *node.Node, m msg.Msg) []msg.Msg {
	t.Helper()
	l, e := n.In(m)
	if e != api.OK {
		t.Fatalf("P2402: In of %s = %v", msg.Word(m.Kind), e)
	}
	return l
}

// one is the one message of an answer.
func one(t *testing.T, l []msg.Msg) msg.Msg {
	t.Helper()
	if len(l) != 1 {
		t.Fatalf("P2402: %d messages are sent", len(l))
	}
	return l[0]
}

func fails(t *testing.T, n *node.Node, m msg.Msg, want api.Errno) {
	t.Helper()
	if l, e := n.In(m); e != want || len(l) != 0 {
		t.Errorf("P2402: In of %s = %d messages, %v, want %v", msg.Word(m.Kind), len(l), e, want)
	}
}

func ticked(t *testing.T, n *node.Node, by int64) []msg.Msg {
	t.Helper()
	l, e := n.Tick(by)
	if e != api.OK {
		t.Fatalf("P2403: Tick(%d) = %v", by, e)
	}
	return l
}

type rec struct {
	kind int
	n    int64
}

func recs(n *node.Node) []rec {
	return field.Map(n.Recs(), func(r memo.Rec) rec { return rec{r.Kind, r.N} })
}

func wrote(t *testing.T, n *node.Node, want ...rec) {
	t.Helper()
	if got := recs(n); !slices.Equal(got, want) {
		t.Errorf("P2402: the log has %v, want %v", got, want)
	}
}

func signed(t *testing.T, n *node.Node, want ...string) {
	t.Helper()
	if got := n.Signed(); !slices.Equal(got, want) {
		t.Errorf("P2404: Signed = %q, want %q", got, want)
	}
}

func same(t *testing.T, got, want msg.Msg) {
	t.Helper()
	if !msg.Same(got, want) {
		t.Errorf("P2402: a %s from %d to %d is another one than was promised", msg.Word(got.Kind), got.From, got.To)
	}
}

func ask(to, nonce int) msg.Msg {
	return msg.Msg{Kind: msg.Ask, From: client, To: to, Cmd: sample.Cmd(nonce)}
}

func certify(to int, c median.Cert) msg.Msg {
	return msg.Msg{Kind: msg.Certify, From: client, To: to, Cert: c}
}

func shut(from, to int, lo, hi int64) msg.Msg {
	return msg.Msg{Kind: msg.Close, From: from, To: to, Lo: lo, Hi: hi}
}

func propose(from, to int, b block.Block, chain ...block.Block) msg.Msg {
	return msg.Msg{Kind: msg.Propose, From: from, To: to, Block: b, Chain: chain}
}

func TestCheck(t *testing.T) {
	s := sample.New(1, 2)
	for i, c := range []struct {
		change func(*node.Conf)
		want   api.Errno
	}{
		{func(c *node.Conf) {}, api.OK},
		{func(c *node.Conf) { c.Who, c.Lease, c.Margin, c.Disk = 3, 256, api.MaxTime, 1<<16 }, api.OK},
		{func(c *node.Conf) { c.Who, c.Lease, c.Margin, c.Wait, c.Room = 0, 1, 0, 1000, 64 }, api.OK},
		{func(c *node.Conf) { c.Keys.Roots = c.Keys.Roots[1:] }, api.ErrArg},
		{func(c *node.Conf) { c.Keys.Conf.F = 0 }, api.ErrArg},
		{func(c *node.Conf) { c.Who = -1 }, api.ErrArg},
		{func(c *node.Conf) { c.Who = 4 }, api.ErrArg},
		{func(c *node.Conf) { c.Lease = 0 }, api.ErrArg},
		{func(c *node.Conf) { c.Lease = 257 }, api.ErrArg},
		{func(c *node.Conf) { c.Margin = -1 }, api.ErrArg},
		{func(c *node.Conf) { c.Margin = api.MaxTime + 1 }, api.ErrArg},
		{func(c *node.Conf) { c.Wait = 0; c.Accounts = make([]int64, 17) }, api.ErrArg},
		{func(c *node.Conf) { c.Wait = 1001 }, api.ErrArg},
		{func(c *node.Conf) { c.Room = 0; c.Accounts = make([]int64, 17) }, api.ErrArg},
		{func(c *node.Conf) { c.Room = 65 }, api.ErrArg},
		{func(c *node.Conf) { c.Accounts = make([]int64, 17); c.Disk = 0 }, api.ErrLong},
		{func(c *node.Conf) { c.Accounts = []int64{-1} }, api.ErrArg},
		{func(c *node.Conf) { c.Disk = 0 }, api.ErrArg},
		{func(c *node.Conf) { c.Disk = 1<<16 + 1 }, api.ErrArg},
	} {
		x := conf(s, 1)
		c.change(&x)
		if e := node.Check(x); e != c.want {
			t.Errorf("P2401: case %d: Check = %v, want %v", i, e, c.want)
		}
		if c.want != api.OK {
			if n, e := node.New(x, -1); n != nil || e != c.want {
				t.Errorf("P2401: case %d: New = %v, want %v", i, e, c.want)
			}
		}
	}
}

func TestSeeds(t *testing.T) {
	s := sample.New(2, 3)
	k, e := node.Seeds(quorum.Conf{F: 2}, sample.Seed, 3)
	if e != api.OK || k.Conf.F != 2 || k.Height != 3 || !slices.Equal(k.Roots, s.Keys.Roots) {
		t.Errorf("P2401: Seeds = %v, %v", k, e)
	}
	for _, c := range [][2]int{{0, 3}, {4, 3}, {1, 9}, {1, -1}} {
		if k, e := node.Seeds(quorum.Conf{F: c[0]}, 1, c[1]); e != api.ErrArg || len(k.Roots) != 0 || k.Height != 0 || k.Conf.F != 0 {
			t.Errorf("P2401: Seeds(%d, %d) = %v, %v", c[0], c[1], k, e)
		}
	}
}

func TestNew(t *testing.T) {
	s := sample.New(1, 3)
	for _, at := range []int64{-1, api.MaxTime + 1} {
		if n, e := node.New(conf(s, 1), at); n != nil || e != api.ErrArg {
			t.Errorf("P2401: New at %d = %v", at, e)
		}
	}
	wrong := conf(s, 1)
	wrong.Seed++
	if n, e := node.New(wrong, 5); n != nil || e != api.ErrSig {
		t.Errorf("P2401: New with the key of another replica = %v", e)
	}
	if _, e := node.New(wrong, -1); e != api.ErrArg {
		t.Errorf("P2401: New with the key of another replica and a wrong time = %v", e)
	}
	n := made(t, conf(s, 1), 5)
	if n.Down() || n.Now() != 5 || len(n.Recs()) != 0 || len(n.Signed()) != 0 || n.State().View() != 1 || n.State().Leaf() != 0 || n.State().Log().Book().Has[1] != 100 {
		t.Error("P2401: a new replica is not new")
	}
}

func TestConfIsNotRetained(t *testing.T) {
	s := sample.New(1, 3)
	c := conf(s, 1)
	n := made(t, c, 1000)
	cert := s.Cert(sample.Cmd(0), 5)
	c.Keys.Roots[0], c.Accounts[0] = 0, 7
	in(t, n, certify(1, cert))
	n.Crash()
	if n.Recover(); n.State().Log().Book().Has[0] != 100 {
		t.Error("P2: the replica shares memory with its Conf")
	}
}

func TestInErrors(t *testing.T) {
	s := sample.New(1, 3)
	n := made(t, conf(s, 1), 1000)
	fails(t, n, msg.Msg{Kind: 0, To: 1}, api.ErrArg)
	fails(t, n, msg.Msg{Kind: 10, To: 1}, api.ErrArg)
	fails(t, n, msg.Msg{Kind: msg.Ask, To: 1, From: 5}, api.ErrArg)
	fails(t, n, msg.Msg{Kind: msg.Ask, To: 1, Chain: make([]block.Block, 257)}, api.ErrLong)
	fails(t, n, msg.Msg{Kind: msg.Ask, To: 2, Chain: make([]block.Block, 257)}, api.ErrLong)
	fails(t, n, ask(2, 0), api.ErrArg)
	fails(t, n, ask(client, 0), api.ErrArg)
	fails(t, n, msg.Msg{Kind: msg.Stamped, To: 1}, api.ErrState)
	fails(t, n, msg.Msg{Kind: msg.Acked, To: 1}, api.ErrState)
	fails(t, n, msg.Msg{Kind: msg.Ask, To: 1}, api.ErrArg)
	wrote(t, n)
	n.Crash()
	fails(t, n, msg.Msg{Kind: 0, To: 1}, api.ErrDown)
	fails(t, n, ask(1, 0), api.ErrDown)
}

func TestAsk(t *testing.T) {
	s := sample.New(1, 3)
	n := made(t, conf(s, 1), 1000)
	d := cmd.Digest(sample.Cmd(0))
	for i, at := range []int64{1000, 1001} {
		got := one(t, in(t, n, ask(1, 0)))
		same(t, got, msg.Msg{Kind: msg.Stamped, From: 1, To: client, Cmd: sample.Cmd(0), Stamp: got.Stamp})
		if x := got.Stamp; x.Cmd != d || x.Who != 1 || x.At != at || x.Sig.Leaf != i || stamp.Valid(s.Keys, x) != api.OK {
			t.Errorf("P2402: the stamp %d is of %d, leaf %d", i, x.At, x.Sig.Leaf)
		}
	}
	wrote(t, n, rec{memo.Issue, 1000}, rec{memo.Leaf, 4}, rec{memo.Issue, 1001})
	signed(t, n, stamp.Words(d, 1, 1000), stamp.Words(d, 1, 1001))
	if n.State().Floor() != 1001 || n.State().Leaf() != 4 || n.Now() != 1000 {
		t.Errorf("P2402: Floor %d, Leaf %d", n.State().Floor(), n.State().Leaf())
	}
	from := ask(1, 0)
	from.From = 3
	if got := one(t, in(t, n, from)); got.To != 3 || got.From != 1 {
		t.Errorf("P2402: the stamp goes to %d", got.To)
	}
	bad := ask(1, 0)
	bad.Cmd.Amount = 0
	fails(t, n, bad, api.ErrArg)
}

func TestAskAfterClose(t *testing.T) {
	s := sample.New(1, 3)
	n := made(t, conf(s, 1), 1000)
	in(t, n, shut(2, 1, 0, 1000))
	if got := one(t, in(t, n, ask(1, 0))); got.Stamp.At != 1001 {
		t.Errorf("P2402: a closed time is issued: %d", got.Stamp.At)
	}
}

func TestAskAtTheEndOfTime(t *testing.T) {
	s := sample.New(1, 3)
	n := made(t, conf(s, 1), api.MaxTime)
	in(t, n, ask(1, 0))
	m := ask(1, 0)
	m.Chain = []block.Block{s.Block(1, block.Genesis(), 10)}
	before := recs(n)
	fails(t, n, m, api.ErrLong)
	wrote(t, n, before...)
	if n.State().Tree().Len() != 1 {
		t.Error("P2402: ErrLong leaves a block of the Chain behind")
	}
}

func TestLease(t *testing.T) {
	s := sample.New(1, 3)
	c := conf(s, 1)
	c.Lease = 3
	n := made(t, c, 1000)
	var want []rec
	for i := range 8 {
		in(t, n, ask(1, i))
		want = append(want, rec{memo.Issue, int64(1000 + i)})
		if i%3 == 0 {
			want = append(want, rec{memo.Leaf, int64(min(i+3, 8))})
		}
	}
	wrote(t, n, want...)
	words, now := n.Signed(), n.Now()
	spent := ask(1, 9)
	spent.Chain = []block.Block{s.Block(1, block.Genesis(), 10)}
	fails(t, n, spent, api.ErrSpent)
	fails(t, n, shut(2, 1, 0, 50), api.ErrSpent)
	wrote(t, n, want...)
	signed(t, n, words...)
	if n.State().Tree().Len() != 1 || n.State().Pool().Floor() != 0 || n.State().Floor() != 1007 {
		t.Error("P2402: ErrSpent leaves something behind")
	}
	ticked(t, n, 1)
	ticked(t, n, 1)
	if l, e := n.Tick(1); e != api.ErrSpent || len(l) != 0 || n.Now() != now+2 || n.State().View() != 1 {
		t.Errorf("P2403: a Tick with a spent key = %v, Now %d", e, n.Now())
	}
	wrote(t, n, want...)
}

func TestCertify(t *testing.T) {
	s := sample.New(1, 6)
	c := conf(s, 1)
	c.Room = 2
	n := made(t, c, 1000)
	a, b := s.Cert(sample.Cmd(0), 50), s.Cert(sample.Cmd(1), 60)
	for range 2 {
		got := one(t, in(t, n, certify(1, a)))
		same(t, got, msg.Msg{Kind: msg.Acked, From: 1, To: client, Cert: a, Ack: got.Ack})
		if got.Ack.Cert != median.Digest(a) || got.Ack.Who != 1 || ack.Valid(s.Keys, got.Ack) != api.OK {
			t.Errorf("P2402: the ack is %v", got.Ack)
		}
	}
	wrote(t, n, rec{memo.Cert, 0}, rec{memo.Leaf, 4})
	words := ack.Words(median.Digest(a), 1)
	signed(t, n, words, words)
	if got := n.Recs()[0]; !median.Same(got.Cert, a) || n.State().Pool().Len() != 1 {
		t.Error("P2402: the certificate is not in the log or in the pool")
	}
	bad := a
	bad.Stamps = a.Stamps[1:]
	fails(t, n, certify(1, bad), api.ErrFew)
	in(t, n, certify(1, b))
	full := certify(1, s.Cert(sample.Cmd(2), 70))
	full.Chain = []block.Block{s.Block(1, block.Genesis(), 10)}
	fails(t, n, full, api.ErrFull)
	if n.State().Tree().Len() != 1 || n.State().Pool().Len() != 2 {
		t.Error("P2402: ErrFull leaves something behind")
	}
	in(t, n, shut(2, 1, 0, 55))
	late := certify(1, a)
	late.Chain = full.Chain
	fails(t, n, late, api.ErrLate)
	if n.State().Tree().Len() != 2 {
		t.Error("P2402: ErrLate takes back the block of the Chain")
	}
	in(t, n, certify(1, b))
	wrote(t, n, rec{memo.Cert, 0}, rec{memo.Leaf, 4}, rec{memo.Cert, 0}, rec{memo.Shut, 55}, rec{memo.Block, 0}, rec{memo.Leaf, 8})
}

func TestClose(t *testing.T) {
	s := sample.New(1, 5)
	n := made(t, conf(s, 1), 1000)
	a, b := s.Cert(sample.Cmd(0), 50), s.Cert(sample.Cmd(1), 60)
	in(t, n, certify(1, b))
	in(t, n, certify(1, a))
	for _, x := range [][2]int64{{-1, 50}, {50, 50}, {51, 50}, {0, api.MaxTime + 1}, {2000, 1001 - 1}} {
		fails(t, n, shut(2, 1, x[0], x[1]), api.ErrArg)
	}
	fails(t, n, shut(2, 1, 0, 1001), api.ErrLate)
	got := one(t, in(t, n, shut(2, 1, 50, 1000)))
	same(t, got, msg.Msg{Kind: msg.Closed, From: 1, To: 2, Report: got.Report})
	if r := got.Report; r.Who != 1 || r.Lo != 50 || r.Hi != 1000 || len(r.Certs) != 1 || !median.Same(r.Certs[0], b) || cut.Valid(s.Keys, r) != api.OK {
		t.Errorf("P2402: the report has %d certificates", len(r.Certs))
	}
	if n.State().Pool().Floor() != 1000 || n.State().Floor() != 1000 {
		t.Errorf("P2402: Floor %d", n.State().Floor())
	}
	fails(t, n, shut(2, 1, 0, 999), api.ErrLate)
	again := one(t, in(t, n, shut(client, 1, 0, 1000)))
	if len(again.Report.Certs) != 2 || again.To != client {
		t.Errorf("P2402: the second report has %d certificates", len(again.Report.Certs))
	}
	wrote(t, n, rec{memo.Cert, 0}, rec{memo.Leaf, 4}, rec{memo.Cert, 0}, rec{memo.Shut, 1000}, rec{memo.Shut, 1000})
	if l := n.Signed(); len(l) != 4 || l[2] != cut.Words(got.Report) || l[3] != cut.Words(again.Report) {
		t.Errorf("P2404: Signed = %q", l)
	}
}

func TestCloseAtTheEndOfTime(t *testing.T) {
	s := sample.New(1, 5)
	n := made(t, conf(s, 1), api.MaxTime)
	if got := one(t, in(t, n, shut(2, 1, 0, api.MaxTime))); got.Report.Hi != api.MaxTime {
		t.Errorf("P2402: the report is up to %d", got.Report.Hi)
	}
}

// led is replica 1 that leads view 1 and has sent its Close.
func led(t *testing.T, s sample.Set) *node.Node {
	t.Helper()
	n := made(t, conf(s, 1), 1000)
	if l := ticked(t, n, 5); len(l) != 4 {
		t.Fatalf("P2403: %d messages of the first leader", len(l))
	}
	return n
}

func closed(s sample.Set, who int, certs ...median.Cert) msg.Msg {
	return msg.Msg{Kind: msg.Closed, From: who, To: 1, Report: s.Report(who, 0, 995, certs...)}
}

func TestLeadOfTheFirstView(t *testing.T) {
	s := sample.New(1, 5)
	n := made(t, conf(s, 1), 1000)
	for to, m := range ticked(t, n, 5) {
		same(t, m, msg.Msg{Kind: msg.Close, From: 1, To: to, Lo: 0, Hi: 995})
	}
	if l := ticked(t, n, 5); len(l) != 0 {
		t.Errorf("P2403: the Close is sent %d times", 1+len(l)/4)
	}
	wrote(t, n)
	if l := ticked(t, made(t, conf(s, 2), 1000), 5); len(l) != 0 {
		t.Errorf("P2403: another replica leads view 1: %d", len(l))
	}
	slow := made(t, conf(s, 1), 5)
	if l := ticked(t, slow, 5); len(l) != 0 {
		t.Errorf("P2403: a Close up to the time 0: %v", l)
	}
	if l := ticked(t, slow, 1); len(l) != 4 || l[0].Lo != 0 || l[0].Hi != 1 {
		t.Errorf("P2403: the Close that waited is not sent: %v", l)
	}
	late := made(t, conf(s, 1), 5)
	in(t, late, propose(2, 1, s.Block(2, block.Genesis(), 3)))
	if l := ticked(t, late, 50); len(l) != 0 {
		t.Errorf("P2403: view 1 is led from view 2: %d", len(l))
	}
}

func TestClosed(t *testing.T) {
	s := sample.New(1, 5)
	a := s.Cert(sample.Cmd(0), 50)
	fails(t, made(t, conf(s, 1), 1000), closed(s, 0), api.ErrState)
	n := led(t, s)
	for _, x := range [][2]int64{{1, 995}, {0, 994}, {0, 996}} {
		fails(t, n, msg.Msg{Kind: msg.Closed, To: 1, Report: s.Report(0, x[0], x[1])}, api.ErrState)
	}
	forged := closed(s, 0)
	forged.Report.Certs = []median.Cert{a}
	fails(t, n, forged, api.ErrSig)
	for _, m := range []msg.Msg{closed(s, 3, a), closed(s, 0), closed(s, 3)} {
		if l := in(t, n, m); len(l) != 0 {
			t.Fatalf("P2402: a block of too few reports")
		}
	}
	l := in(t, n, closed(s, 2, a))
	if len(l) != 4 {
		t.Fatalf("P2402: %d proposals", len(l))
	}
	b := l[0].Block
	for to, m := range l {
		same(t, m, msg.Msg{Kind: msg.Propose, From: 1, To: to, Block: b})
	}
	whos := field.Map(b.Reports, func(r cut.Report) int { return r.Who })
	if b.View != 1 || b.Parent != 0 || b.QC.View != 0 || b.Lo != 0 || b.Hi != 995 || !slices.Equal(whos, []int{0, 2, 3}) || block.Valid(s.Keys, b) != api.OK {
		t.Errorf("P2402: the block is of %v, %d to %d", whos, b.Lo, b.Hi)
	}
	if len(b.Reports[2].Certs) != 1 {
		t.Error("P2402: not the first report of a replica is kept")
	}
	fails(t, n, closed(s, 1), api.ErrState)
	if l := ticked(t, n, 5); len(l) != 0 {
		t.Errorf("P2402: the view is led again: %d", len(l))
	}
	wrote(t, n)
}

func TestPropose(t *testing.T) {
	s := sample.New(1, 6)
	n := made(t, conf(s, 3), 1000)
	a := s.Block(1, block.Genesis(), 10)
	b := s.Block(2, a, 20)
	for _, from := range []int{0, 2, client} {
		fails(t, n, propose(from, 3, a), api.ErrView)
	}
	bad := a
	bad.Reports = a.Reports[1:]
	fails(t, n, propose(1, 3, bad), api.ErrFew)
	fails(t, n, propose(2, 3, b), api.ErrParent)
	got := one(t, in(t, n, propose(2, 3, b, a)))
	same(t, got, msg.Msg{Kind: msg.Voted, From: 3, To: 3, Vote: got.Vote, Chain: []block.Block{a, b}})
	if v := got.Vote; v.View != 2 || v.Block != block.Digest(b) || v.Who != 3 || block.ValidVote(s.Keys, v) != api.OK {
		t.Errorf("P2402: the vote is %v", v)
	}
	wrote(t, n, rec{memo.Block, 0}, rec{memo.Block, 0}, rec{memo.View, 2}, rec{memo.Vote, 2}, rec{memo.Leaf, 4})
	signed(t, n, block.VoteWords(2, block.Digest(b)))
	if f := n.State().Safe(); f.Voted != 2 || f.High.View != 1 || n.State().View() != 2 {
		t.Errorf("P2402: Voted %d, High %d", f.Voted, f.High.View)
	}
	fails(t, n, propose(2, 3, b), api.ErrView)
	fails(t, n, propose(1, 3, a), api.ErrView)
	if l := recs(n); len(l) != 5 {
		t.Errorf("P2402: a refused block leaves %v", l[5:])
	}
}

func TestProposeInTheTreeAlready(t *testing.T) {
	s := sample.New(1, 6)
	n := made(t, conf(s, 3), 1000)
	a := s.Block(1, block.Genesis(), 10)
	if got := one(t, in(t, n, propose(1, 3, a, a))); got.To != 2 || len(got.Chain) != 1 {
		t.Errorf("P2402: the vote goes to %d", got.To)
	}
	wrote(t, n, rec{memo.Block, 0}, rec{memo.Vote, 1}, rec{memo.Leaf, 4})
}

func TestProposeAgainstTheLock(t *testing.T) {
	s := sample.New(1, 7)
	n := made(t, conf(s, 3), 1000)
	a := s.Block(1, block.Genesis(), 10)
	b := s.Block(2, a, 20)
	c := s.Block(3, b, 30)
	side := s.Block(6, block.Genesis(), 15)
	in(t, n, propose(3, 3, c, a, b))
	before := len(recs(n))
	fails(t, n, propose(2, 3, side), api.ErrLock)
	if l := recs(n)[before:]; !slices.Equal(l, []rec{{memo.Block, 0}, {memo.View, 6}}) || n.State().View() != 6 || n.State().Safe().Voted != 3 {
		t.Errorf("P2402: a block against the lock leaves %v", l)
	}
}

func TestChain(t *testing.T) {
	s := sample.New(1, 6)
	n := made(t, conf(s, 3), 1000)
	a := s.Block(1, block.Genesis(), 10)
	b := s.Block(2, a, 20)
	bad := s.Block(3, b, 30)
	bad.Reports[0].Who = 3
	orphan := s.Block(5, bad, 40)
	fails(t, n, msg.Msg{Kind: msg.Acked, To: 3, Chain: []block.Block{b, orphan, a, bad, block.Genesis(), a, b}}, api.ErrState)
	wrote(t, n, rec{memo.Block, 0}, rec{memo.Block, 0})
	if l := n.Recs(); block.Digest(l[0].Block) != block.Digest(a) || block.Digest(l[1].Block) != block.Digest(b) || n.State().Tree().Len() != 3 {
		t.Error("P2402: not just the valid blocks of the Chain are kept")
	}
	side := s.Block(2, a, 25)
	fails(t, n, msg.Msg{Kind: msg.Acked, To: 3, Chain: []block.Block{side, s.Block(3, b, 30)}}, api.ErrState)
	if n.State().Tree().Len() != 5 {
		t.Error("P2402: a block beside the ones that are known is not kept")
	}
	c := conf(s, 3)
	c.Disk = 1
	small := made(t, c, 1000)
	fails(t, small, msg.Msg{Kind: msg.Acked, To: 3, Chain: []block.Block{a, b}}, api.ErrFull)
	wrote(t, small)
	if small.State().Tree().Len() != 1 {
		t.Error("P2402: ErrFull leaves a block of the Chain behind")
	}
}

func voted(s sample.Set, who, view int, b block.Block, chain ...block.Block) msg.Msg {
	return msg.Msg{Kind: msg.Voted, From: who, To: 2, Vote: s.Vote(who, view, block.Digest(b)), Chain: chain}
}

func TestVoted(t *testing.T) {
	s := sample.New(1, 6)
	n := made(t, conf(s, 2), 1000)
	a := s.Block(1, block.Genesis(), 10)
	bad := voted(s, 0, 1, a)
	bad.Vote.Block++
	fails(t, n, bad, api.ErrSig)
	fails(t, n, voted(s, 0, 2, a), api.ErrView)
	fails(t, n, voted(s, 0, 0, a), api.ErrArg)
	for _, m := range []msg.Msg{voted(s, 3, 1, a, a), voted(s, 0, 1, a), voted(s, 3, 1, a), voted(s, 1, 5, a), voted(s, 1, 1, block.Genesis())} {
		if l := in(t, n, m); len(l) != 0 {
			t.Fatal("P2402: too few votes make a quorum")
		}
	}
	wrote(t, n, rec{memo.Block, 0})
	l := in(t, n, voted(s, 1, 1, a))
	if len(l) != 4 {
		t.Fatalf("P2402: %d messages of the leader", len(l))
	}
	for to, m := range l {
		same(t, m, msg.Msg{Kind: msg.Close, From: 2, To: to, Lo: 10, Hi: 990})
	}
	wrote(t, n, rec{memo.Block, 0}, rec{memo.Quorum, 0}, rec{memo.View, 2})
	q := n.Recs()[1].QC
	if q.View != 1 || q.Block != block.Digest(a) || block.ValidQC(s.Keys, q) != api.OK || n.State().Safe().High.View != 1 || n.State().View() != 2 {
		t.Errorf("P2402: the QC is of view %d", q.View)
	}
	if l := in(t, n, voted(s, 2, 1, a)); len(l) != 0 {
		t.Error("P2402: the view is led twice")
	}
	for i, who := range []int{0, 1, 3} {
		l := in(t, n, msg.Msg{Kind: msg.Closed, From: who, To: 2, Report: s.Report(who, 10, 990)})
		if want := 4 * (i / 2); len(l) != want {
			t.Fatalf("P2402: %d proposals, want %d", len(l), want)
		}
		if len(l) > 0 {
			b := l[0].Block
			same(t, l[3], msg.Msg{Kind: msg.Propose, From: 2, To: 3, Block: b, Chain: []block.Block{a}})
			if b.View != 2 || b.Parent != block.Digest(a) || b.QC.View != 1 || b.Lo != 10 || block.Valid(s.Keys, b) != api.OK {
				t.Errorf("P2402: the block is of view %d", b.View)
			}
		}
	}
}

func TestVotedForAnUnknownBlock(t *testing.T) {
	s := sample.New(1, 6)
	n := made(t, conf(s, 2), 1000)
	a := s.Block(1, block.Genesis(), 10)
	for who := range 3 {
		if l := in(t, n, voted(s, who, 1, a)); len(l) != 0 {
			t.Error("P2402: a view is led on a block that is not there")
		}
	}
	wrote(t, n, rec{memo.Quorum, 0})
	if n.State().Safe().High.View != 1 || n.State().View() != 1 {
		t.Error("P2402: the quorum is not seen")
	}
}

func TestVotedForAPassedView(t *testing.T) {
	s := sample.New(1, 6)
	n := made(t, conf(s, 2), 1000)
	a := s.Block(1, block.Genesis(), 10)
	in(t, n, propose(3, 2, s.Block(3, block.Genesis(), 20)))
	for who := range 3 {
		if l := in(t, n, voted(s, who, 1, a, a)); len(l) != 0 {
			t.Error("P2402: a view is led that is less than the view of the pace")
		}
	}
	if n.State().View() != 3 || n.State().Safe().High.View != 1 {
		t.Errorf("P2402: the view is %d", n.State().View())
	}
}

func next(s sample.Set, who, view int, high block.QC, chain ...block.Block) msg.Msg {
	return msg.Msg{Kind: msg.Next, From: who, To: 2, View: s.NewView(who, view, high), Chain: chain}
}

func TestNext(t *testing.T) {
	s := sample.New(1, 6)
	n := made(t, conf(s, 2), 1000)
	a := s.Block(1, block.Genesis(), 10)
	qa := s.QC(a)
	bad := next(s, 0, 6, qa)
	bad.View.Who = 1
	fails(t, n, bad, api.ErrSig)
	fails(t, n, next(s, 0, 5, qa), api.ErrView)
	fails(t, n, next(s, 0, 0, qa), api.ErrArg)
	for _, m := range []msg.Msg{next(s, 0, 6, block.QC{}), next(s, 1, 6, qa, a), next(s, 0, 6, qa), next(s, 3, 10, qa)} {
		if l := in(t, n, m); len(l) != 0 {
			t.Fatal("P2402: too few NewViews make a quorum")
		}
	}
	l := in(t, n, next(s, 3, 6, block.QC{}))
	if len(l) != 4 {
		t.Fatalf("P2402: %d messages of the leader", len(l))
	}
	for to, m := range l {
		same(t, m, msg.Msg{Kind: msg.Close, From: 2, To: to, Lo: 10, Hi: 990})
	}
	wrote(t, n, rec{memo.Block, 0}, rec{memo.Quorum, 0}, rec{memo.View, 6})
	if q := n.Recs()[1].QC; q.View != 1 || q.Block != block.Digest(a) {
		t.Errorf("P2402: not the highest QC is taken: %d", q.View)
	}
	if l := in(t, n, next(s, 2, 6, qa)); len(l) != 0 {
		t.Error("P2402: the view is led twice")
	}
}

func TestNextWithNothingHigh(t *testing.T) {
	s := sample.New(1, 6)
	n := made(t, conf(s, 2), 12)
	for who := range 3 {
		in(t, n, next(s, who, 2, block.QC{}))
	}
	wrote(t, n, rec{memo.Quorum, 0}, rec{memo.View, 2})
	if l := ticked(t, n, 1); len(l) != 0 {
		t.Errorf("P2402: the Close was sent already: %d", len(l))
	}
}

func TestACloseThatWaits(t *testing.T) {
	s := sample.New(1, 6)
	n := made(t, conf(s, 2), 20)
	a := s.Block(1, block.Genesis(), 10)
	for who := range 3 {
		if l := in(t, n, voted(s, who, 1, a, a)); len(l) != 0 {
			t.Error("P2402: a Close of no time")
		}
	}
	fails(t, n, msg.Msg{Kind: msg.Closed, To: 2, Report: s.Report(0, 10, 11)}, api.ErrState)
	if l := ticked(t, n, 0); len(l) != 0 {
		t.Error("P2403: a Close of no time")
	}
	l := ticked(t, n, 1)
	if len(l) != 4 || l[0].Kind != msg.Close || l[0].Lo != 10 || l[0].Hi != 11 {
		t.Fatalf("P2403: the Close that waited: %v", l)
	}
	in(t, n, msg.Msg{Kind: msg.Closed, To: 2, Report: s.Report(0, 10, 11)})
}

func TestTick(t *testing.T) {
	s := sample.New(1, 6)
	n := made(t, conf(s, 3), 1000)
	for _, by := range []int64{-1, api.MaxTime - 999} {
		if l, e := n.Tick(by); e != api.ErrArg || len(l) != 0 || n.Now() != 1000 {
			t.Errorf("P2403: Tick(%d) = %v", by, e)
		}
	}
	a := s.Block(1, block.Genesis(), 10)
	b := s.Block(2, a, 20)
	in(t, n, propose(1, 3, a))
	fails(t, n, msg.Msg{Kind: msg.Acked, To: 3, Chain: []block.Block{b}}, api.ErrState)
	before := len(recs(n))
	for i := range 2 {
		if l := ticked(t, n, 7); len(l) != 0 {
			t.Errorf("P2403: tick %d ends the view", i+1)
		}
	}
	got := one(t, ticked(t, n, 7))
	same(t, got, msg.Msg{Kind: msg.Next, From: 3, To: 2, View: got.View, Chain: []block.Block{a}})
	if v := got.View; v.View != 2 || v.Who != 3 || v.High.View != 1 || pace.Valid(s.Keys, v) != api.OK || n.Now() != 1021 {
		t.Errorf("P2403: the NewView is %d with %d", v.View, v.High.View)
	}
	if l := recs(n)[before:]; !slices.Equal(l, []rec{{memo.View, 2}}) || n.State().View() != 2 {
		t.Errorf("P2403: the tick wrote %v", l)
	}
	if l := n.Signed(); l[len(l)-1] != pace.Words(got.View) {
		t.Errorf("P2404: Signed = %q", l)
	}
	n.Crash()
	if l, e := n.Tick(1); e != api.ErrDown || len(l) != 0 || n.Now() != 1021 {
		t.Errorf("P2403: a Tick while down = %v", e)
	}
}

func TestTickOfALeaderThatWaits(t *testing.T) {
	s := sample.New(1, 6)
	c := conf(s, 1)
	c.Wait = 1
	n := made(t, c, 1000)
	l := ticked(t, n, 5)
	if len(l) != 5 || l[0].Kind != msg.Close || l[4].Kind != msg.Next || l[4].To != 2 || l[4].View.View != 2 {
		t.Fatalf("P2403: %d messages", len(l))
	}
	wrote(t, n, rec{memo.View, 2}, rec{memo.Leaf, 4})
}

func TestDiskFull(t *testing.T) {
	s := sample.New(1, 6)
	c := conf(s, 1)
	for disk, want := range map[int]api.Errno{1: api.ErrFull, 2: api.OK} {
		c.Disk = disk
		n := made(t, c, 1000)
		l, e := n.In(ask(1, 0))
		if e != want || len(l) != len(n.Signed()) || len(n.Recs()) != 2*len(l) || (e != api.OK) != (n.State().Floor() == 0) {
			t.Errorf("P2402: with room for %d records: %v, %d records", disk, e, len(n.Recs()))
		}
	}
	c.Disk = 3
	n := made(t, c, 1000)
	in(t, n, ask(1, 0))
	a := s.Block(1, block.Genesis(), 10)
	fails(t, n, propose(1, 1, a), api.ErrFull)
	if n.State().Tree().Len() != 1 || n.State().Safe().Voted != 0 || len(n.Recs()) != 2 {
		t.Error("P2402: ErrFull leaves something behind")
	}
	if got := one(t, in(t, n, ask(1, 0))); got.Stamp.At != 1001 {
		t.Errorf("P2402: after ErrFull the time is %d", got.Stamp.At)
	}
	fails(t, n, ask(1, 0), api.ErrFull)
	if l := ticked(t, n, 1); len(l) != 4 {
		t.Errorf("P2403: %d messages of the leader", len(l))
	}
	ticked(t, n, 1)
	if _, e := n.Tick(1); e != api.ErrFull || n.Now() != 1002 || n.State().View() != 1 {
		t.Errorf("P2403: a Tick with a full log = %v", e)
	}
}

func TestVoteIsNotKeptWithAFullLog(t *testing.T) {
	s := sample.New(1, 6)
	c := conf(s, 2)
	c.Disk = 1
	n := made(t, c, 1000)
	a := s.Block(1, block.Genesis(), 10)
	in(t, n, voted(s, 0, 1, a))
	in(t, n, voted(s, 1, 1, a))
	fails(t, n, voted(s, 3, 1, a, a), api.ErrFull)
	if l := in(t, n, voted(s, 3, 1, a)); len(l) != 0 || n.State().Safe().High.View != 1 {
		t.Error("P2402: a vote that was taken back was kept")
	}
}

func TestNoRoomForARecord(t *testing.T) {
	s := sample.New(1, 6)
	a := s.Block(1, block.Genesis(), 10)
	for disk := range 3 {
		c := conf(s, 2)
		c.Disk = max(disk, 1)
		n := made(t, c, 1000)
		in(t, n, voted(s, 0, 1, a))
		in(t, n, voted(s, 1, 1, a))
		if disk == 0 {
			fails(t, n, msg.Msg{Kind: msg.Acked, To: 2, Chain: []block.Block{s.Block(2, block.Genesis(), 9)}}, api.ErrState)
			fails(t, n, voted(s, 3, 1, a), api.ErrFull)
			fails(t, n, shut(0, 2, 0, 900), api.ErrFull)
		} else {
			fails(t, n, voted(s, 3, 1, a, a), api.ErrFull)
		}
		if n.State().View() != 1 || n.State().Safe().High.View != 0 || n.State().Pool().Floor() != 0 || len(n.Signed()) != 0 {
			t.Errorf("P2402: with room for %d records ErrFull leaves something behind", c.Disk)
		}
	}
}

func TestCrashAndRecover(t *testing.T) {
	s := sample.New(1, 6)
	n := made(t, conf(s, 1), 1000)
	if e := n.Recover(); e != api.ErrState {
		t.Errorf("P2404: Recover of a replica that is up = %v", e)
	}
	in(t, n, ask(1, 0))
	in(t, n, shut(0, 1, 0, 900))
	ticked(t, n, 50)
	a := s.Block(1, block.Genesis(), 10)
	in(t, n, propose(1, 1, a))
	words, l := n.Signed(), recs(n)
	n.Crash()
	if !n.Down() || n.State() != nil || n.Now() != 1050 || !slices.Equal(recs(n), l) || !slices.Equal(n.Signed(), words) {
		t.Error("P2404: a crash loses the wrong things")
	}
	n.Crash()
	if e := n.Recover(); e != api.OK || n.Down() || n.Now() != 1050 || !slices.Equal(recs(n), l) {
		t.Fatalf("P2404: Recover = %v", e)
	}
	x := n.State()
	if x.Leaf() != 4 || x.Floor() != 1000 || x.View() != 1 || x.Safe().Voted != 1 || x.Tree().Len() != 2 || x.Pool().Floor() != 900 {
		t.Errorf("P2404: the state after Recover: %d, %d, %d", x.Leaf(), x.Floor(), x.Safe().Voted)
	}
	fails(t, n, propose(1, 1, a), api.ErrView)
	got := one(t, in(t, n, ask(1, 0)))
	if got.Stamp.Sig.Leaf != 4 || got.Stamp.At != 1050 || n.State().Leaf() != 8 {
		t.Errorf("P2404: after Recover leaf %d signs %d", got.Stamp.Sig.Leaf, got.Stamp.At)
	}
	if l := ticked(t, n, 1); len(l) != 0 {
		t.Errorf("P2404: view 1 is led again after Recover: %d", len(l))
	}
}

func TestRecoverForgetsWhatIsNotWritten(t *testing.T) {
	s := sample.New(1, 6)
	n := led(t, s)
	in(t, n, closed(s, 0))
	in(t, n, closed(s, 2))
	ticked(t, n, 1)
	n.Crash()
	n.Recover()
	fails(t, n, closed(s, 3), api.ErrState)
	if l := ticked(t, n, 1); len(l) != 0 {
		t.Error("P2404: the ticks before a crash count")
	}
	if l := ticked(t, n, 1); len(l) != 0 {
		t.Error("P2404: the ticks before a crash count")
	}
	if l := ticked(t, n, 1); len(l) != 1 || l[0].Kind != msg.Next {
		t.Errorf("P2404: the pace does not go on after Recover: %d", len(l))
	}
}

func TestRecoverKeepsFloorAboveNow(t *testing.T) {
	s := sample.New(1, 6)
	n := made(t, conf(s, 1), 1000)
	for range 3 {
		in(t, n, ask(1, 0))
	}
	n.Crash()
	n.Recover()
	if got := one(t, in(t, n, ask(1, 0))); got.Stamp.At != 1003 {
		t.Errorf("P2404: a time is issued twice: %d", got.Stamp.At)
	}
}

func TestRecoverWithViews(t *testing.T) {
	s := sample.New(1, 6)
	n := made(t, conf(s, 2), 1000)
	a := s.Block(1, block.Genesis(), 10)
	for i := range 15 {
		ticked(t, n, int64(i))
	}
	if n.State().View() != 6 {
		t.Fatalf("P2403: the view is %d", n.State().View())
	}
	n.Crash()
	n.Recover()
	for who := range 3 {
		if l := in(t, n, next(s, who, 6, s.QC(a), a)); len(l) != 0 {
			t.Error("P2404: a view up to that of the crash is led")
		}
	}
	for who := range 3 {
		if l := in(t, n, next(s, who, 10, s.QC(a))); len(l) != 4*(who/2) {
			t.Errorf("P2404: %d messages of a leader of a later view", len(l))
		}
	}
}

func TestTorn(t *testing.T) {
	s := sample.New(1, 6)
	a := s.Block(1, block.Genesis(), 10)
	for keep, want := range map[int][]rec{
		-1: nil, 0: nil, 1: {{memo.Block, 0}}, 2: {{memo.Block, 0}, {memo.Vote, 1}},
		3: {{memo.Block, 0}, {memo.Vote, 1}, {memo.Leaf, 4}}, 9: {{memo.Block, 0}, {memo.Vote, 1}, {memo.Leaf, 4}},
	} {
		n := made(t, conf(s, 3), 1000)
		if e := n.Torn(propose(1, 3, a), keep); e != api.OK || !n.Down() {
			t.Errorf("P2404: Torn = %v", e)
		}
		wrote(t, n, want...)
		signed(t, n)
		n.Recover()
		wrote(t, n, want...)
		got, e := n.In(propose(1, 3, a))
		if keep < 2 && (e != api.OK || one(t, got).Vote.Sig.Leaf != 0) || keep >= 2 && e != api.ErrView {
			t.Errorf("P2404: after Torn with %d records kept: %v", keep, e)
		}
	}
}

func TestTornKeepsWhatWasSynced(t *testing.T) {
	s := sample.New(1, 6)
	n := made(t, conf(s, 1), 1000)
	in(t, n, ask(1, 0))
	fails(t, n, msg.Msg{Kind: msg.Acked, To: 1, Chain: []block.Block{s.Block(1, block.Genesis(), 10)}}, api.ErrState)
	words := n.Signed()
	if e := n.Torn(ask(1, 0), 0); e != api.OK {
		t.Errorf("P2404: Torn = %v", e)
	}
	wrote(t, n, rec{memo.Issue, 1000}, rec{memo.Leaf, 4}, rec{memo.Block, 0})
	signed(t, n, words...)
	n.Recover()
	if got := one(t, in(t, n, ask(1, 0))); got.Stamp.At != 1001 || got.Stamp.Sig.Leaf != 4 {
		t.Errorf("P2404: after Torn: %d, leaf %d", got.Stamp.At, got.Stamp.Sig.Leaf)
	}
}

func TestTornErrors(t *testing.T) {
	s := sample.New(1, 6)
	c := conf(s, 1)
	c.Disk = 1
	a := s.Block(1, block.Genesis(), 10)
	bad := ask(1, 0)
	bad.Cmd.Amount = 0
	bad.Chain = []block.Block{a}
	for i, x := range []struct {
		m    msg.Msg
		want api.Errno
		recs []rec
	}{
		{msg.Msg{}, api.ErrArg, nil}, {ask(2, 0), api.ErrArg, nil}, {ask(1, 0), api.ErrFull, nil},
		{bad, api.ErrArg, []rec{{memo.Block, 0}}},
	} {
		n := made(t, c, 1000)
		if e := n.Torn(x.m, 9); e != x.want || !n.Down() {
			t.Errorf("P2404: case %d: Torn = %v, want %v", i, e, x.want)
		}
		wrote(t, n, x.recs...)
		if e := n.Torn(x.m, 9); e != api.ErrDown || !n.Down() {
			t.Errorf("P2404: case %d: Torn while down = %v", i, e)
		}
	}
}

func TestTwin(t *testing.T) {
	s := sample.New(1, 6)
	n := led(t, s)
	in(t, n, closed(s, 0))
	in(t, n, closed(s, 2))
	w, v := n.Twin(), n.Twin()
	first, second := in(t, n, closed(s, 3)), in(t, w, closed(s, 1))
	if len(first) != 4 || len(second) != 4 || second[0].Block.Reports[1].Who != 1 || first[0].Block.Reports[2].Who != 3 {
		t.Error("P2404: the twins are not independent")
	}
	in(t, n, ask(1, 0))
	ticked(t, n, 9)
	if v.Now() != 1005 || len(v.Recs()) != 0 || len(v.Signed()) != 0 || v.State().Floor() != 0 {
		t.Error("P2404: the twin went along")
	}
	v.Crash()
	if n.Down() || w.Down() || !v.Down() || !v.Twin().Down() {
		t.Error("P2404: the replica went along with its twin")
	}
	if got := one(t, in(t, w, ask(1, 0))); got.Stamp.Sig.Leaf != 0 {
		t.Errorf("P2404: the twin signs with leaf %d", got.Stamp.Sig.Leaf)
	}
}

func TestTwinsDoNotWriteIntoEachOther(t *testing.T) {
	s := sample.New(1, 6)
	n := made(t, conf(s, 1), 1000)
	for i := range 3 {
		in(t, n, ask(1, i))
	}
	w := n.Twin()
	in(t, n, ask(1, 3))
	in(t, w, ask(1, 4))
	words := func(nonce int) string { return stamp.Words(cmd.Digest(sample.Cmd(nonce)), 1, 1003) }
	if a, b := n.Signed(), w.Signed(); a[3] != words(3) || b[3] != words(4) {
		t.Errorf("P2404: the twins signed %s and %s", a[3], b[3])
	}
}

func TestTwinsHearByThemselves(t *testing.T) {
	s := sample.New(2, 6)
	c := conf(s, 2)
	n := made(t, c, 1000)
	hear := func(n *node.Node, whos ...int) {
		for _, who := range whos {
			in(t, n, voted(s, who, 1, block.Block{View: 1, Hi: 9}))
		}
	}
	hear(n, 0, 1, 2)
	w := n.Twin()
	hear(n, 3)
	hear(w, 4)
	hear(n, 5)
	hear(w, 5)
	for want, n := range map[int]*node.Node{3: n, 4: w} {
		l := n.Recs()
		if len(l) != 1 || l[0].QC.Votes[3].Who != want {
			t.Fatalf("P2404: the twins write into each other: %d records", len(l))
		}
	}
}

func TestMessagesAreNotRetained(t *testing.T) {
	s := sample.New(1, 6)
	n := made(t, conf(s, 2), 1000)
	a := s.Block(1, block.Genesis(), 10)
	var asked []msg.Msg
	for who := range 3 {
		m := voted(s, who, 1, a)
		asked = append(asked, in(t, n, m)...)
		m.Vote.Sig.Path[0]++
	}
	if q := n.Recs()[0].QC; len(asked) != 0 || block.ValidQC(s.Keys, q) != api.OK {
		t.Error("P2: a vote is shared with its message")
	}
	for who := range 3 {
		m := next(s, who, 6, s.QC(a))
		in(t, n, m)
		m.View.High.Votes[0].Sig.Path[0]++
		m.View.Sig.Path[0]++
	}
	if q := n.Recs()[1].QC; q.View != 1 || block.ValidQC(s.Keys, q) != api.OK {
		t.Error("P2: a NewView is shared with its message")
	}
	m := certify(2, s.Cert(sample.Cmd(0), 50))
	got := one(t, in(t, n, m))
	m.Cert.Stamps[0].Sig.Path[0]++
	if median.Valid(s.Keys, got.Cert) != api.OK {
		t.Error("P2: a certificate is shared with its message")
	}
}

func TestRecordsAreCopies(t *testing.T) {
	s := sample.New(1, 6)
	n := made(t, conf(s, 2), 1000)
	a := s.Block(1, block.Genesis(), 10)
	in(t, n, certify(2, s.Cert(sample.Cmd(0), 50)))
	for who := range 3 {
		in(t, n, voted(s, who, 1, a, a))
	}
	l := n.Recs()
	if len(l) != 5 || l[0].Kind != memo.Cert || l[2].Kind != memo.Block || l[3].Kind != memo.Quorum {
		t.Fatalf("P2402: the log has %v", recs(n))
	}
	l[0].Cert.Stamps[0].Sig.Path[0]++
	l[2].Block.Reports[0].Sig.Path[0]++
	l[3].QC.Votes[0].Sig.Path[0]++
	l = n.Recs()
	if median.Valid(s.Keys, l[0].Cert) != api.OK || block.Valid(s.Keys, l[2].Block) != api.OK || block.ValidQC(s.Keys, l[3].QC) != api.OK {
		t.Error("P2: a record was changed from outside")
	}
}

func TestNothingIsShared(t *testing.T) {
	s := sample.New(1, 6)
	n := led(t, s)
	a := s.Block(1, block.Genesis(), 995, s.Cert(sample.Cmd(0), 50))
	c := s.Cert(sample.Cmd(1), 990)
	spoilCert := func(c median.Cert) { c.Stamps[0].Sig.Path[0]++ }
	spoil := func(b block.Block) {
		b.Reports[0].Sig.Path[0]++
		spoilCert(b.Reports[0].Certs[0])
	}
	m := propose(1, 1, a)
	m.Block = msg.All(0, 1, m)[0].Block
	vote := one(t, in(t, n, m))
	spoil(m.Block)
	spoil(vote.Chain[0])
	cm := certify(1, msg.All(0, 1, certify(1, c))[0].Cert)
	acked := one(t, in(t, n, cm))
	spoilCert(cm.Cert)
	spoilCert(acked.Cert)
	spoil(n.Recs()[0].Block)
	n.Signed()[0] = "changed"
	if b, ok := n.State().Tree().Get(block.Digest(a)); !ok || block.Valid(s.Keys, b) != api.OK || block.Valid(s.Keys, n.Recs()[0].Block) != api.OK {
		t.Error("P2: a block of the replica was changed from outside")
	}
	if l := n.State().Pool().All(); median.Valid(s.Keys, l[0]) != api.OK || n.Signed()[0] == "changed" {
		t.Error("P2: the replica was changed from outside")
	}
	first := closed(s, 0, s.Cert(sample.Cmd(0), 50))
	in(t, n, first)
	spoilCert(first.Report.Certs[0])
	in(t, n, closed(s, 2))
	l := in(t, n, closed(s, 3))
	spoil(l[0].Block)
	if block.Valid(s.Keys, l[1].Block) != api.OK {
		t.Error("P2: two proposals share memory")
	}
}

func TestKeysOfTheReplica(t *testing.T) {
	s := sample.New(1, 4)
	n := made(t, conf(s, 2), 1000)
	seen := map[int]hash.Digest{}
	for i := range 16 {
		if i%3 == 2 {
			n.Crash()
			n.Recover()
		}
		l, e := n.In(ask(2, i))
		if e == api.ErrSpent {
			break
		}
		x := one(t, l).Stamp
		if _, ok := seen[x.Sig.Leaf]; ok || e != api.OK {
			t.Fatalf("P2404: leaf %d signs twice: %v", x.Sig.Leaf, e)
		}
		seen[x.Sig.Leaf] = x.Cmd
		if !key.Verify(s.Keys.Roots[2], x.Sig, stamp.Digest(x.Cmd, 2, x.At), 4) {
			t.Errorf("P2404: leaf %d does not verify", x.Sig.Leaf)
		}
	}
}
