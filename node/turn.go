package node

import (
	"folkmoot/api"
	"folkmoot/block"
	"folkmoot/box"
	"folkmoot/clock"
	"folkmoot/copyblock"
	"folkmoot/copycert"
	"folkmoot/hash"
	"folkmoot/key"
	"folkmoot/memo"
	"folkmoot/msg"
	"folkmoot/pace"
	"folkmoot/quorum"
)

// turn is one message or tick. It works on twins, which take the place of what they are
// twins of only when the turn is kept; the records go to the log at once, unsynced.
type turn struct {
	*live
	node  *Node
	clock *clock.Clock
	out   *box.Box[letter]
	signs bool
}

// letter waits to be sent; seal, if there is one, signs it first and tells the words.
type letter struct {
	m    msg.Msg
	seal func(k *key.Key, m *msg.Msg) (string, api.Errno)
}

func (n *Node) begin() *turn {
	// A turn sends at most a Close to all replicas and one message more.
	out, _ := box.New[letter](1, 2*quorum.N(n.conf.Keys.Conf))
	return &turn{live: n.live.twin(), node: n, clock: n.clock.Twin(), out: out}
}

// keep makes what was done last, whether or not it ended with an error.
func (t *turn) keep() {
	t.node.live, t.node.clock = t.live, t.clock
	t.node.log.Sync()
}

// send signs and gives out what waits. It must come after keep.
func (t *turn) send() ([]msg.Msg, api.Errno) {
	var l []msg.Msg
	for {
		next, ok := t.out.Take()
		if !ok {
			return l, api.OK
		}
		if next.seal != nil {
			words, e := next.seal(t.key, &next.m)
			if e != api.OK {
				return nil, e
			}
			t.node.signed = append(t.node.signed, words)
		}
		l = append(l, next.m)
	}
}

func (t *turn) conf() Conf { return t.node.conf }

func (t *turn) leader(view int) int { return pace.Leader(t.conf().Keys.Conf, view) }

// post puts a message where it waits to be sent.
func (t *turn) post(to int, m msg.Msg, seal func(*key.Key, *msg.Msg) (string, api.Errno)) {
	m.From, m.To = t.conf().Who, to
	t.signs = t.signs || seal != nil
	t.out.Put(letter{m: m, seal: seal}, false)
}

func (t *turn) postAll(m msg.Msg) {
	for _, c := range msg.All(t.conf().Who, quorum.N(t.conf().Keys.Conf), m) {
		t.post(c.To, c, nil)
	}
}

// record applies a record and, if it holds, writes it to the log.
func (t *turn) record(r memo.Rec) api.Errno {
	if e := t.state.Apply(r); e != api.OK {
		return e
	}
	return t.node.log.Append(copied(r))
}

func copied(r memo.Rec) memo.Rec {
	r.Cert = copycert.Cert(r.Cert)
	r.Block = copyblock.Block(r.Block)
	r.QC = copyblock.QC(r.QC)
	return r
}

// lease reserves leaves, if something is to be signed and none is ready.
func (t *turn) lease() api.Errno {
	if !t.signs || t.key.Next() < t.state.Leaf() {
		return api.OK
	}
	if t.key.Left() == 0 {
		return api.ErrSpent
	}
	more := min(t.conf().Lease, t.key.Left())
	if e := t.record(memo.Rec{Kind: memo.Leaf, N: int64(t.key.Next() + more)}); e != api.OK {
		return e
	}
	_, e := t.key.Reserve(more)
	return e
}

// enter goes on to a later view.
func (t *turn) enter(view int) api.Errno {
	if !t.pace.To(view) {
		return api.OK
	}
	return t.record(memo.Rec{Kind: memo.View, N: int64(view)})
}

// leads begins to lead a view, if nothing speaks against it.
func (t *turn) leads(view int, high block.QC) api.Errno {
	top, ok := t.state.Tree().Get(high.Block)
	if view <= t.led || !ok || view < t.pace.View() {
		return api.OK
	}
	if e := t.enter(view); e != api.OK {
		return e
	}
	t.led = view
	t.lead = lead{on: true, view: view, high: copyblock.QC(high), lo: top.Hi}
	t.sendClose()
	return api.OK
}

// sendClose sends the Close of the view that is led, once its time has come.
func (t *turn) sendClose() {
	hi := t.clock.Now() - t.conf().Margin
	if !t.lead.on || t.lead.sent || hi <= t.lead.lo {
		return
	}
	t.lead.sent, t.lead.hi = true, hi
	t.postAll(msg.Msg{Kind: msg.Close, Lo: t.lead.lo, Hi: hi})
}

// chainTo has the blocks from Genesis, which everyone has, to d.
func (t *turn) chainTo(d hash.Digest) []block.Block {
	tree := t.state.Tree()
	var l []block.Block
	for _, d := range tree.Path(d) {
		if b, ok := tree.Get(d); ok && d != 0 {
			l = append(l, b)
		}
	}
	return l
}
