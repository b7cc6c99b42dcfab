package watch

import (
	"folkmoot/ack"
	"folkmoot/block"
	"folkmoot/cmd"
	"folkmoot/cut"
	"folkmoot/hash"
	"folkmoot/median"
	"folkmoot/msg"
	"folkmoot/pace"
	"folkmoot/stamp"
)

// visitor is shown all that is in messages.
type visitor interface {
	cmd(cmd.Cmd)
	stamp(stamp.Stamp)
	cert(median.Cert)
	ack(ack.Ack)
	report(cut.Report)
	block(block.Block)
	vote(block.Vote)
	view(pace.NewView)
}

// walk leads a visitor through messages. The same certificates, reports and blocks are in very
// many messages, since each carries its whole Chain, so that they are shown only once.
type walk struct {
	visitor
	certs   once[median.Cert]
	reports once[cut.Report]
	blocks  once[block.Block]
}

// once knows what it has had; mark may be the same for things that are not.
type once[T any] struct {
	mark func(T) uint64
	same func(a, b T) bool
	had  map[uint64][]T
}

func (o *once[T]) first(x T) bool {
	m := o.mark(x)
	for _, y := range o.had[m] {
		if o.same(x, y) {
			return false
		}
	}
	o.had[m] = append(o.had[m], x)
	return true
}

func lead(v visitor, seen []msg.Msg) {
	w := &walk{
		visitor: v,
		certs:   once[median.Cert]{mark: markCert, same: median.Same, had: map[uint64][]median.Cert{}},
		reports: once[cut.Report]{mark: markReport, same: cut.Same, had: map[uint64][]cut.Report{}},
		blocks:  once[block.Block]{mark: markBlock, same: sameBlock, had: map[uint64][]block.Block{}},
	}
	for i := range seen {
		w.message(&seen[i])
	}
}

func mixed[T ~int | ~int64 | ~uint64](l ...T) uint64 {
	var h uint64
	for _, x := range l {
		h = hash.Mix(h, uint64(x))
	}
	return h
}

func markCert(c median.Cert) uint64 {
	h := mixed(c.C.Client, c.C.Nonce, len(c.Stamps))
	for _, s := range c.Stamps {
		h = hash.Mix(h, uint64(s.Sig.One[0]))
	}
	return h
}

func markReport(r cut.Report) uint64 {
	return mixed(r.Lo, r.Hi, int64(r.Who), int64(len(r.Certs)), int64(r.Sig.One[0]))
}

func markBlock(b block.Block) uint64 {
	return mixed(b.Lo, b.Hi, int64(b.View), int64(b.Parent), int64(len(b.Reports)))
}

func sameBlock(a, b block.Block) bool { return msg.Same(msg.Msg{Block: a}, msg.Msg{Block: b}) }

func (w *walk) message(m *msg.Msg) {
	w.visitor.cmd(m.Cmd)
	w.visitor.stamp(m.Stamp)
	w.cert(m.Cert)
	w.visitor.ack(m.Ack)
	w.report(m.Report)
	w.block(m.Block)
	w.visitor.vote(m.Vote)
	w.visitor.view(m.View)
	w.votes(m.View.High)
	for _, b := range m.Chain {
		w.block(b)
	}
}

func (w *walk) cert(c median.Cert) {
	if !w.certs.first(c) {
		return
	}
	w.visitor.cert(c)
	w.visitor.cmd(c.C)
	for _, s := range c.Stamps {
		w.visitor.stamp(s)
	}
}

func (w *walk) report(r cut.Report) {
	if !w.reports.first(r) {
		return
	}
	w.visitor.report(r)
	for _, c := range r.Certs {
		w.cert(c)
	}
}

// block leaves out what is in the View 0: all of it has the digest 0, and none is signed.
func (w *walk) block(b block.Block) {
	if b.View == 0 || !w.blocks.first(b) {
		return
	}
	w.visitor.block(b)
	w.votes(b.QC)
	for _, r := range b.Reports {
		w.report(r)
	}
}

func (w *walk) votes(q block.QC) {
	for _, v := range q.Votes {
		w.visitor.vote(v)
	}
}
