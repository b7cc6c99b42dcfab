// Package sample makes signed things for the tests of the other packages: right ones,
// and, as nothing is checked here, wrong ones that are signed all the same.
package sample

import (
	"folkmoot/ack"
	"folkmoot/api"
	"folkmoot/block"
	"folkmoot/cmd"
	"folkmoot/cut"
	"folkmoot/hash"
	"folkmoot/key"
	"folkmoot/median"
	"folkmoot/pace"
	"folkmoot/quorum"
	"folkmoot/stamp"
)

// Seed is the seed of replica 0; that of replica i is Seed + i.
const Seed = 100

// Set has the keys of all replicas, with all leaves reserved.
type Set struct {
	Keys stamp.Keys
	Key  []*key.Key
}

// New makes the keys of all replicas.
func New(f, height int) Set {
	s := Set{Keys: stamp.Keys{Conf: quorum.Conf{F: f}, Height: height}}
	for i := range quorum.N(s.Keys.Conf) {
		k, e := key.New(i, Seed+uint64(i), height)
		if e != api.OK {
			return Set{}
		}
		k.Reserve(1 << height)
		s.Key = append(s.Key, k)
		s.Keys.Roots = append(s.Keys.Roots, k.Root())
	}
	return s
}

// Cmd is a command that is in order, another one for each n from 0 to 2^20.
func Cmd(n int) cmd.Cmd { return cmd.Cmd{Client: 2, Nonce: n, From: 0, To: 1, Amount: 5} }

// Q is the size of a quorum.
func (s Set) Q() int { return quorum.Q(s.Keys.Conf) }

func (s Set) sign(who int, d hash.Digest) key.Sig {
	sig, _ := s.Key[who].Sign(d)
	return sig
}

// Stamp is a stamp of who.
func (s Set) Stamp(who int, c cmd.Cmd, at int64) stamp.Stamp {
	d := cmd.Digest(c)
	return stamp.Stamp{Cmd: d, Who: who, At: at, Sig: s.sign(who, stamp.Digest(d, who, at))}
}

// Stamps has a stamp of replica 0, 1 and so on for each time.
func (s Set) Stamps(c cmd.Cmd, at ...int64) []stamp.Stamp {
	var l []stamp.Stamp
	for who, t := range at {
		l = append(l, s.Stamp(who, c, t))
	}
	return l
}

// Cert is a certificate of the first Q replicas for a time.
func (s Set) Cert(c cmd.Cmd, at int64) median.Cert {
	l := make([]int64, s.Q())
	for i := range l {
		l[i] = at
	}
	return median.Cert{C: c, Stamps: s.Stamps(c, l...)}
}

// Ack is an ack of who.
func (s Set) Ack(who int, c median.Cert) ack.Ack {
	d := median.Digest(c)
	return ack.Ack{Cert: d, Who: who, Sig: s.sign(who, ack.Digest(d, who))}
}

// Acks has an ack of each of the first n replicas.
func (s Set) Acks(n int, c median.Cert) []ack.Ack {
	var l []ack.Ack
	for who := range n {
		l = append(l, s.Ack(who, c))
	}
	return l
}

// Report is a report of who with these certificates.
func (s Set) Report(who int, lo, hi int64, certs ...median.Cert) cut.Report {
	r := cut.Report{Who: who, Lo: lo, Hi: hi, Certs: certs}
	r.Sig = s.sign(who, cut.Digest(r))
	return r
}

// Block stands on a parent with a QC for it; the first Q replicas report the same.
func (s Set) Block(view int, parent block.Block, hi int64, certs ...median.Cert) block.Block {
	q := s.QC(parent)
	b := block.Block{View: view, Parent: q.Block, QC: q, Lo: parent.Hi, Hi: hi}
	for who := range s.Q() {
		b.Reports = append(b.Reports, s.Report(who, b.Lo, b.Hi, certs...))
	}
	return b
}

// Vote is a vote of who.
func (s Set) Vote(who, view int, b hash.Digest) block.Vote {
	return block.Vote{View: view, Block: b, Who: who, Sig: s.sign(who, block.VoteDigest(view, b))}
}

// Votes has a vote of each of the first n replicas.
func (s Set) Votes(n, view int, b hash.Digest) []block.Vote {
	var l []block.Vote
	for who := range n {
		l = append(l, s.Vote(who, view, b))
	}
	return l
}

// QC has the votes of the first Q replicas for a block; none are needed for Genesis.
func (s Set) QC(b block.Block) block.QC {
	q := block.QC{View: b.View, Block: block.Digest(b)}
	if b.View != 0 {
		q.Votes = s.Votes(s.Q(), q.View, q.Block)
	}
	return q
}

// NewView is a NewView of who.
func (s Set) NewView(who, view int, high block.QC) pace.NewView {
	v := pace.NewView{View: view, Who: who, High: high}
	v.Sig = s.sign(who, pace.Digest(v))
	return v
}
