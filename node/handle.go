package node

import (
	"cmp"
	"slices"

	"folkmoot/ack"
	"folkmoot/api"
	"folkmoot/block"
	"folkmoot/cmd"
	"folkmoot/copyblock"
	"folkmoot/cut"
	"folkmoot/hash"
	"folkmoot/key"
	"folkmoot/median"
	"folkmoot/memo"
	"folkmoot/msg"
	"folkmoot/pace"
	"folkmoot/quorum"
	"folkmoot/safe"
	"folkmoot/stamp"
	"folkmoot/tree"
)

func (t *turn) handle(m msg.Msg) api.Errno {
	if e := t.chain(m.Chain); e != api.OK {
		return e
	}
	if e := t.byKind(m); e != api.OK {
		return e
	}
	return t.lease()
}

func (t *turn) byKind(m msg.Msg) api.Errno {
	switch m.Kind {
	case msg.Ask:
		return t.ask(m)
	case msg.Certify:
		return t.certify(m)
	case msg.Close:
		return t.shut(m)
	case msg.Closed:
		return t.closed(m)
	case msg.Propose:
		return t.propose(m)
	case msg.Voted:
		return t.voted(m)
	case msg.Next:
		return t.next(m)
	}
	return api.ErrState
}

// chain adds the blocks that are not known yet. Only the log can be full here; whatever else
// is wrong with a block says nothing about the message.
func (t *turn) chain(l []block.Block) api.Errno {
	if len(l) == 0 {
		return api.OK
	}
	known := t.state.Tree()
	for i, b := range l {
		if i+1 < len(l) && isBlock(known, l[i+1].Parent, b) {
			continue
		}
		d := block.Digest(b)
		if known.Extends(d, d) || block.Valid(t.conf().Keys, b) != api.OK {
			continue
		}
		if e := t.record(memo.Rec{Kind: memo.Block, Block: b}); e == api.ErrFull {
			return e
		}
	}
	return api.OK
}

// isBlock reports whether b is the block d of the tree. To hold the two against each other
// costs far less than to work out the digest of b.
func isBlock(in *tree.Tree, d hash.Digest, b block.Block) bool {
	known, ok := in.Get(d)
	return ok && msg.Same(msg.Msg{Block: known}, msg.Msg{Block: b})
}

func (t *turn) ask(m msg.Msg) api.Errno {
	if e := cmd.Check(m.Cmd); e != api.OK {
		return e
	}
	t.clock.Raise(t.state.Floor())
	at, e := t.clock.Issue()
	if e != api.OK {
		return e
	}
	if e := t.record(memo.Rec{Kind: memo.Issue, N: at}); e != api.OK {
		return e
	}
	who, d := t.conf().Who, cmd.Digest(m.Cmd)
	t.post(m.From, msg.Msg{Kind: msg.Stamped, Cmd: m.Cmd}, func(k *key.Key, m *msg.Msg) (string, api.Errno) {
		s, e := stamp.Make(k, who, d, at)
		m.Stamp = s
		return stamp.Words(d, who, at), e
	})
	return api.OK
}

func (t *turn) certify(m msg.Msg) api.Errno {
	if e := median.Valid(t.conf().Keys, m.Cert); e != api.OK {
		return e
	}
	rec := copied(memo.Rec{Kind: memo.Cert, Cert: m.Cert})
	if e := t.record(rec); e != api.OK && e != api.ErrTwice {
		return e
	}
	who := t.conf().Who
	t.post(m.From, msg.Msg{Kind: msg.Acked, Cert: rec.Cert}, func(k *key.Key, m *msg.Msg) (string, api.Errno) {
		a, e := ack.Make(k, who, m.Cert)
		m.Ack = a
		return ack.Words(median.Digest(m.Cert), who), e
	})
	return api.OK
}

func (t *turn) shut(m msg.Msg) api.Errno {
	if m.Lo < 0 || m.Lo >= m.Hi || m.Hi > api.MaxTime {
		return api.ErrArg
	}
	if m.Hi > t.clock.Now() || m.Hi < t.state.Pool().Floor() {
		return api.ErrLate
	}
	if e := t.record(memo.Rec{Kind: memo.Shut, N: m.Hi}); e != api.OK {
		return e
	}
	who, pool, lo, hi := t.conf().Who, t.state.Pool(), m.Lo, m.Hi
	t.post(m.From, msg.Msg{Kind: msg.Closed}, func(k *key.Key, m *msg.Msg) (string, api.Errno) {
		r, e := cut.Make(k, who, pool, lo, hi)
		m.Report = r
		return cut.Words(r), e
	})
	return api.OK
}

func (t *turn) closed(m msg.Msg) api.Errno {
	now := &t.lead
	if !now.on || !now.sent || m.Report.Lo != now.lo || m.Report.Hi != now.hi {
		return api.ErrState
	}
	if e := cut.Valid(t.conf().Keys, m.Report); e != api.OK {
		return e
	}
	now.reports, _ = heard(now.reports, copyblock.Report(m.Report), func(r cut.Report) int { return r.Who })
	if len(now.reports) < quorum.Q(t.conf().Keys.Conf) {
		return api.OK
	}
	reports := slices.SortedFunc(slices.Values(now.reports), func(a, b cut.Report) int { return cmp.Compare(a.Who, b.Who) })
	b := block.Block{
		View: now.view, Parent: now.high.Block, QC: now.high, Lo: now.lo, Hi: now.hi, Reports: reports,
	}
	t.lead = lead{}
	t.postAll(msg.Msg{Kind: msg.Propose, Block: b, Chain: t.chainTo(b.Parent)})
	return api.OK
}

func (t *turn) propose(m msg.Msg) api.Errno {
	b := m.Block
	if m.From != t.leader(b.View) {
		return api.ErrView
	}
	if e := block.Valid(t.conf().Keys, b); e != api.OK {
		return e
	}
	if e := t.record(memo.Rec{Kind: memo.Block, Block: b}); e != api.OK && e != api.ErrTwice {
		return e
	}
	if e := t.enter(b.View); e != api.OK {
		return e
	}
	if e := safe.May(t.state.Safe(), t.state.Tree(), b); e != api.OK {
		return e
	}
	if e := t.record(memo.Rec{Kind: memo.Vote, N: int64(b.View)}); e != api.OK {
		return e
	}
	who, view, d := t.conf().Who, b.View, block.Digest(b)
	t.post(t.leader(view+1), msg.Msg{Kind: msg.Voted, Chain: t.chainTo(d)}, func(k *key.Key, m *msg.Msg) (string, api.Errno) {
		v, e := block.MakeVote(k, who, view, d)
		m.Vote = v
		return block.VoteWords(view, d), e
	})
	return api.OK
}

// voted acts on the vote that makes a quorum; votes after it add nothing.
func (t *turn) voted(m msg.Msg) api.Errno {
	v, c := m.Vote, t.conf()
	if e := block.ValidVote(c.Keys, v); e != api.OK {
		return e
	}
	if t.leader(v.View+1) != c.Who {
		return api.ErrView
	}
	l, isNew := t.votes.add(ballot{v.View, v.Block}, copyblock.Vote(v), func(v block.Vote) int { return v.Who })
	if !isNew || len(l) != quorum.Q(c.Keys.Conf) {
		return api.OK
	}
	q, e := block.Gather(c.Keys, v.View, v.Block, l)
	if e != api.OK {
		return e
	}
	return t.won(v.View+1, q)
}

// next acts on the NewView that makes a quorum; those after it add nothing.
func (t *turn) next(m msg.Msg) api.Errno {
	v, c := m.View, t.conf()
	if e := pace.Valid(c.Keys, v); e != api.OK {
		return e
	}
	if t.leader(v.View) != c.Who {
		return api.ErrView
	}
	one := msg.All(c.Who, 1, msg.Msg{View: v})[0].View
	l, isNew := t.views.add(v.View, one, func(v pace.NewView) int { return v.Who })
	if !isNew || len(l) != quorum.Q(c.Keys.Conf) {
		return api.OK
	}
	q, e := pace.Best(c.Keys, v.View, l)
	if e != api.OK {
		return e
	}
	return t.won(v.View, q)
}

// won leads a view with the QC that a quorum gave for it.
func (t *turn) won(view int, q block.QC) api.Errno {
	if e := t.record(memo.Rec{Kind: memo.Quorum, QC: q}); e != api.OK {
		return e
	}
	return t.leads(view, q)
}

func (t *turn) tick(by int64) api.Errno {
	if e := t.clock.Tick(by); e != api.OK {
		return e
	}
	if t.pace.View() == 1 && t.leader(1) == t.conf().Who && t.led == 0 {
		if e := t.leads(1, block.QC{}); e != api.OK {
			return e
		}
	}
	t.sendClose()
	if !t.pace.Tick() {
		return api.OK
	}
	view := t.pace.View()
	if e := t.record(memo.Rec{Kind: memo.View, N: int64(view)}); e != api.OK {
		return e
	}
	who, high := t.conf().Who, t.state.Safe().High
	t.post(t.leader(view), msg.Msg{Kind: msg.Next, Chain: t.chainTo(high.Block)}, func(k *key.Key, m *msg.Msg) (string, api.Errno) {
		v, e := pace.Make(k, who, view, high)
		m.View = v
		return pace.Words(v), e
	})
	return t.lease()
}
