package client_test

import (
	"slices"
	"testing"

	"folkmoot/ack"
	"folkmoot/api"
	"folkmoot/block"
	"folkmoot/client"
	"folkmoot/cmd"
	"folkmoot/field"
	"folkmoot/median"
	"folkmoot/msg"
	"folkmoot/sample"
	"folkmoot/stamp"
)

const n = 4 // the number of the client, for F = 1

func made(t *testing.T, s sample.Set) *client.Client {
	t.Helper()
	c, e := client.New(s.Keys)
	if e != api.OK {
		t.Fatalf("P2501: New = %v", e)
	}
	return c
}

func stamped(x stamp.Stamp) msg.Msg {
	return msg.Msg{Kind: msg.Stamped, From: x.Who, To: n, Stamp: x}
}

func acked(a ack.Ack) msg.Msg { return msg.Msg{Kind: msg.Acked, From: a.Who, To: n, Ack: a} }

func takes(t *testing.T, c *client.Client, m msg.Msg, want int) []msg.Msg {
	t.Helper()
	l, e := c.In(m)
	if e != api.OK || len(l) != want {
		t.Fatalf("P2501: In of %s = %d messages, %v, want %d", msg.Word(m.Kind), len(l), e, want)
	}
	return l
}

func fails(t *testing.T, c *client.Client, m msg.Msg, want api.Errno) {
	t.Helper()
	if l, e := c.In(m); e != want || len(l) != 0 {
		t.Errorf("P2501: In of %s = %d messages, %v, want %v", msg.Word(m.Kind), len(l), e, want)
	}
}

func toAll(t *testing.T, l []msg.Msg, want msg.Msg) {
	t.Helper()
	if !slices.EqualFunc(l, msg.All(n, n, want), msg.Same) {
		t.Errorf("P2501: not a %s to all: %d messages", msg.Word(want.Kind), len(l))
	}
}

func TestNew(t *testing.T) {
	s := sample.New(1, 2)
	if c := made(t, s); len(c.Certs()) != 0 || len(c.Seqs()) != 0 {
		t.Error("P2501: a new client has something")
	}
	bad := s.Keys
	bad.Roots = bad.Roots[1:]
	if c, e := client.New(bad); c != nil || e != api.ErrArg {
		t.Errorf("P2501: New = %v", e)
	}
}

func TestAskAndRetry(t *testing.T) {
	c := made(t, sample.New(1, 2))
	x := sample.Cmd(0)
	if l, e := c.Retry(x); e != api.ErrName || len(l) != 0 {
		t.Errorf("P2501: Retry of what was not asked = %v", e)
	}
	l, e := c.Ask(x)
	if e != api.OK {
		t.Errorf("P2501: Ask = %v", e)
	}
	toAll(t, l, msg.Msg{Kind: msg.Ask, Cmd: x})
	if l, e := c.Ask(x); e != api.ErrTwice || len(l) != 0 {
		t.Errorf("P2501: a second Ask = %v", e)
	}
	if l, e := c.Ask(cmd.Cmd{}); e != api.ErrArg || len(l) != 0 {
		t.Errorf("P2501: Ask of a wrong command = %v", e)
	}
	if _, e := c.Retry(cmd.Cmd{}); e != api.ErrName {
		t.Errorf("P2501: Retry of a wrong command = %v", e)
	}
	l, e = c.Retry(x)
	if e != api.OK {
		t.Errorf("P2501: Retry = %v", e)
	}
	toAll(t, l, msg.Msg{Kind: msg.Ask, Cmd: x})
	same := x
	same.Amount++
	if _, e := c.Ask(same); e != api.OK {
		t.Errorf("P2501: another command with the same ID = %v", e)
	}
}

func TestInErrors(t *testing.T) {
	s := sample.New(1, 3)
	c := made(t, s)
	c.Ask(sample.Cmd(0))
	x := s.Stamp(0, sample.Cmd(0), 50)
	fails(t, c, msg.Msg{Kind: 0, To: n}, api.ErrArg)
	fails(t, c, msg.Msg{Kind: 10, To: n}, api.ErrArg)
	fails(t, c, msg.Msg{Kind: msg.Stamped, From: 5, To: n, Stamp: x}, api.ErrArg)
	fails(t, c, msg.Msg{Kind: msg.Stamped, To: 3, Stamp: x}, api.ErrArg)
	fails(t, c, msg.Msg{Kind: msg.Stamped, To: 3, Chain: make([]block.Block, 257)}, api.ErrLong)
	for _, kind := range []int{msg.Ask, msg.Certify, msg.Close, msg.Closed, msg.Propose, msg.Voted, msg.Next} {
		fails(t, c, msg.Msg{Kind: kind, To: n, Stamp: x}, api.ErrState)
	}
	takes(t, c, stamped(x), 0)
}

func TestStamped(t *testing.T) {
	s := sample.New(1, 4)
	c := made(t, s)
	x := sample.Cmd(0)
	c.Ask(x)
	bad := s.Stamp(0, x, 50)
	bad.At++
	fails(t, c, stamped(bad), api.ErrSig)
	bad.Who = 4
	fails(t, c, stamped(bad), api.ErrArg)
	fails(t, c, stamped(s.Stamp(0, sample.Cmd(1), 50)), api.ErrName)
	takes(t, c, stamped(s.Stamp(3, x, 50)), 0)
	fails(t, c, stamped(s.Stamp(3, x, 51)), api.ErrTwice)
	takes(t, c, stamped(s.Stamp(0, x, 40)), 0)
	if len(c.Certs()) != 0 {
		t.Fatal("P2501: a certificate of two stamps")
	}
	l := takes(t, c, stamped(s.Stamp(1, x, 60)), n)
	certs := c.Certs()
	if len(certs) != 1 || certs[0].C != x || median.At(certs[0]) != 50 || median.Valid(s.Keys, certs[0]) != api.OK {
		t.Fatalf("P2501: Certs = %v", certs)
	}
	whos := field.Map(certs[0].Stamps, func(s stamp.Stamp) int { return s.Who })
	if !slices.Equal(whos, []int{0, 1, 3}) {
		t.Errorf("P2501: the stamps are of %v", whos)
	}
	toAll(t, l, msg.Msg{Kind: msg.Certify, Cert: certs[0]})
	fails(t, c, stamped(s.Stamp(2, x, 60)), api.ErrState)
	fails(t, c, stamped(s.Stamp(3, x, 60)), api.ErrState)
	l, e := c.Retry(x)
	if e != api.OK {
		t.Errorf("P2501: Retry = %v", e)
	}
	toAll(t, l, msg.Msg{Kind: msg.Certify, Cert: certs[0]})
}

// certified is a client with certificates for these commands, in this order.
func certified(t *testing.T, s sample.Set, nonces ...int) *client.Client {
	t.Helper()
	c := made(t, s)
	for _, nonce := range slices.Sorted(slices.Values(nonces)) {
		c.Ask(sample.Cmd(nonce))
	}
	for _, nonce := range nonces {
		for _, x := range s.Stamps(sample.Cmd(nonce), 50, 51, 52) {
			c.In(stamped(x))
		}
	}
	if len(c.Certs()) != len(nonces) {
		t.Fatalf("P2501: %d certificates", len(c.Certs()))
	}
	return c
}

func TestAcked(t *testing.T) {
	s := sample.New(1, 5)
	c := certified(t, s, 1, 0)
	certs := c.Certs()
	if certs[0].C.Nonce != 1 || certs[1].C.Nonce != 0 {
		t.Error("P2501: the certificates are not in the order in which they came")
	}
	bad := s.Ack(0, certs[0])
	bad.Who = 1
	fails(t, c, acked(bad), api.ErrSig)
	bad.Who = 4
	fails(t, c, acked(bad), api.ErrArg)
	fails(t, c, acked(s.Ack(0, s.Cert(sample.Cmd(7), 9))), api.ErrName)
	for _, who := range []int{3, 0} {
		takes(t, c, acked(s.Ack(who, certs[1])), 0)
		takes(t, c, acked(s.Ack(who, certs[0])), 0)
		fails(t, c, acked(s.Ack(who, certs[0])), api.ErrTwice)
	}
	if len(c.Seqs()) != 0 {
		t.Fatal("P2501: a Seq of two acks")
	}
	takes(t, c, acked(s.Ack(2, certs[1])), 0)
	takes(t, c, acked(s.Ack(1, certs[0])), 0)
	seqs := c.Seqs()
	if len(seqs) != 2 || !median.Same(seqs[0].C, certs[1]) || !median.Same(seqs[1].C, certs[0]) {
		t.Fatalf("P2501: %d Seqs", len(seqs))
	}
	for i, want := range [][]int{{0, 2, 3}, {0, 1, 3}} {
		whos := field.Map(seqs[i].Acks, func(a ack.Ack) int { return a.Who })
		if !slices.Equal(whos, want) || ack.ValidSeq(s.Keys, seqs[i]) != api.OK {
			t.Errorf("P2501: the acks are of %v", whos)
		}
	}
	fails(t, c, acked(s.Ack(2, certs[1])), api.ErrTwice)
}

func TestTwin(t *testing.T) {
	s := sample.New(1, 5)
	c := certified(t, s, 0)
	cert := c.Certs()[0]
	c.In(acked(s.Ack(0, cert)))
	c.In(acked(s.Ack(1, cert)))
	c.Ask(sample.Cmd(1))
	w := c.Twin()
	takes(t, c, acked(s.Ack(2, cert)), 0)
	for _, x := range s.Stamps(sample.Cmd(1), 60, 61) {
		takes(t, c, stamped(x), 0)
	}
	c.Ask(sample.Cmd(2))
	if len(w.Seqs()) != 0 || len(w.Certs()) != 1 || len(c.Seqs()) != 1 {
		t.Error("P2501: the twin went along")
	}
	if _, e := w.Ask(sample.Cmd(2)); e != api.OK {
		t.Errorf("P2501: the twin was asked: %v", e)
	}
	takes(t, w, stamped(s.Stamp(0, sample.Cmd(1), 70)), 0)
	takes(t, w, acked(s.Ack(3, cert)), 0)
	if got := w.Seqs(); len(got) != 1 || got[0].Acks[2].Who != 3 || c.Seqs()[0].Acks[2].Who != 2 {
		t.Error("P2501: the twins are not independent")
	}
	takes(t, c, stamped(s.Stamp(2, sample.Cmd(1), 62)), n)
	if len(w.Certs()) != 1 {
		t.Error("P2501: the twin went along")
	}
}

func TestTwinsDoNotWriteIntoEachOther(t *testing.T) {
	s := sample.New(2, 5)
	const client2 = 7 // the number of the client, for F = 2
	c := made(t, s)
	ask := func(c *client.Client, nonce int, whos ...int) {
		c.Ask(sample.Cmd(nonce))
		for _, who := range whos {
			c.In(msg.Msg{Kind: msg.Stamped, To: client2, Stamp: s.Stamp(who, sample.Cmd(nonce), 50)})
		}
	}
	certs := func(c *client.Client) []int {
		return field.Map(c.Certs(), func(c median.Cert) int { return c.C.Nonce })
	}
	for nonce := range 3 {
		ask(c, nonce, 0, 1, 2, 3, 4)
	}
	ask(c, 3, 0, 1, 2)
	w := c.Twin()
	ask(c, 3, 3)
	ask(w, 3, 5)
	ask(c, 3, 6)
	ask(w, 3, 6)
	if a, b := c.Certs(), w.Certs(); len(a) != 4 || len(b) != 4 || a[3].Stamps[3].Who != 3 || b[3].Stamps[3].Who != 5 {
		t.Fatalf("P2501: %d and %d certificates", len(a), len(b))
	}
	w = c.Twin()
	ask(c, 4, 0, 1, 2, 3, 4)
	ask(w, 5, 0, 1, 2, 3, 4)
	ask(w, 4, 0, 1, 2, 3, 4)
	if a, b := certs(c), certs(w); !slices.Equal(a, []int{0, 1, 2, 3, 4}) || !slices.Equal(b, []int{0, 1, 2, 3, 5, 4}) {
		t.Errorf("P2501: the twins have %v and %v", a, b)
	}
	if _, e := c.In(msg.Msg{Kind: msg.Acked, To: client2, Ack: s.Ack(0, w.Certs()[4])}); e != api.ErrName {
		t.Errorf("P2501: a certificate of the twin is known: %v", e)
	}
	seq := func(c *client.Client, i int) {
		for _, a := range s.Acks(5, c.Certs()[i]) {
			c.In(msg.Msg{Kind: msg.Acked, To: client2, Ack: a})
		}
	}
	for i := range 3 {
		seq(c, i)
	}
	w = c.Twin()
	seq(c, 3)
	seq(w, 4)
	if a, b := c.Seqs(), w.Seqs(); len(a) != 4 || len(b) != 4 || a[3].C.C.Nonce != 3 || b[3].C.C.Nonce != 4 {
		t.Errorf("P2501: %d and %d Seqs", len(a), len(b))
	}
}

func TestKeysAreNotRetained(t *testing.T) {
	s := sample.New(1, 5)
	c := made(t, s)
	c.Ask(sample.Cmd(0))
	x := stamped(s.Stamp(1, sample.Cmd(0), 50))
	s.Keys.Roots[1] = 0
	takes(t, c, x, 0)
}

func TestNothingIsShared(t *testing.T) {
	s := sample.New(1, 5)
	c := made(t, s)
	c.Ask(sample.Cmd(0))
	var l []msg.Msg
	for _, x := range s.Stamps(sample.Cmd(0), 50, 51, 52) {
		m := stamped(x)
		l, _ = c.In(m)
		m.Stamp.Sig.Path[0]++
	}
	l[0].Cert.Stamps[0].Sig.Path[0]++
	c.Certs()[0].Stamps[1].Sig.Path[0]++
	cert := c.Certs()[0]
	if median.Valid(s.Keys, l[1].Cert) != api.OK || median.Valid(s.Keys, cert) != api.OK {
		t.Fatal("P2: a certificate of the client was changed from outside")
	}
	for who := range 3 {
		m := acked(s.Ack(who, cert))
		c.In(m)
		m.Ack.Sig.Path[0]++
	}
	got := c.Seqs()[0]
	got.Acks[0].Sig.Path[0]++
	got.C.Stamps[0].Sig.Path[0]++
	if e := ack.ValidSeq(s.Keys, c.Seqs()[0]); e != api.OK {
		t.Errorf("P2: a Seq of the client was changed from outside: %v", e)
	}
}
