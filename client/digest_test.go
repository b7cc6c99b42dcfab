package client_test

import (
	"testing"

	"folkmoot/ack"
	"folkmoot/api"
	"folkmoot/client"
	"folkmoot/cmd"
	"folkmoot/hash"
	"folkmoot/key"
	"folkmoot/median"
	"folkmoot/msg"
	"folkmoot/quorum"
	"folkmoot/sample"
	"folkmoot/stamp"
)

// The certificates of the commands alike(0) and alike(1), with these stamps, have one digest:
// they were searched for, together with the keys.
var (
	alikeRoots = []hash.Digest{0xc362bf06d57ef59d, 0x4863f862a38e5a18, 0xc81f055856386b2f, 0xec37078239d7fe9d}
	alikePaths = [2][3][]hash.Digest{
		{{0, 0x1d9bb2d65683ef79}, {0, 0xf1e8c237b2ab8556}, {0x744e70fad3181173, 0x888a13fb00516de2}},
		{{0, 0x78d67f3ce549cd47}, {0, 0x4cef2ba9035f6688}, {0xeb814bb70842ac95, 0xb0059ad3fbc5dfc1}},
	}
	alikeAcks = [3][]hash.Digest{{0, 0x2c5dc89208325f0}, {0, 0x61b82bd28b9e4e30}, {0, 0x6ad2d7fd8aae3486}}
)

func alike(nonce int) cmd.Cmd { return cmd.Cmd{Client: 1, Nonce: nonce, From: 0, To: 1, Amount: 1} }

func alikeStamped(nonce, who int) msg.Msg {
	return stamped(stamp.Stamp{
		Cmd: cmd.Digest(alike(nonce)), Who: who, At: int64(10 + 10*nonce),
		Sig: key.Sig{Who: who, Path: alikePaths[nonce][who]},
	})
}

func alikeAcked(c *client.Client, who int) msg.Msg {
	d := median.Digest(c.Certs()[0])
	return acked(ack.Ack{Cert: d, Who: who, Sig: key.Sig{Who: who, Path: alikeAcks[who]}})
}

// alikeAsked is a client that was asked for both commands.
func alikeAsked(t *testing.T) *client.Client {
	t.Helper()
	c, e := client.New(stamp.Keys{Conf: quorum.Conf{F: 1}, Roots: alikeRoots, Height: 2})
	if e != api.OK {
		t.Fatalf("P2501: New = %v", e)
	}
	for nonce := range 2 {
		if _, e := c.Ask(alike(nonce)); e != api.OK {
			t.Fatalf("P2501: Ask = %v", e)
		}
	}
	return c
}

func alikeCertified(t *testing.T, c *client.Client, nonce int) {
	t.Helper()
	for who, want := range []int{0, 0, n} {
		takes(t, c, alikeStamped(nonce, who), want)
	}
}

// seqOf asks for one Seq, with the first certificate, and that both have one digest.
func seqOf(t *testing.T, c *client.Client, nonce int) {
	t.Helper()
	certs, seqs := c.Certs(), c.Seqs()
	if len(certs) != 2 || median.Digest(certs[0]) != median.Digest(certs[1]) || median.Same(certs[0], certs[1]) {
		t.Fatalf("P2501: %d certificates, not two of one digest", len(certs))
	}
	if len(seqs) != 1 || seqs[0].C.C != alike(nonce) || !median.Same(seqs[0].C, certs[0]) {
		t.Errorf("P2501, P9: %d Seqs, not one with the certificate that came first", len(seqs))
	}
}

func TestAcksAreForTheFirstCertificateOfADigest(t *testing.T) {
	for first := range 2 {
		c := alikeAsked(t)
		alikeCertified(t, c, first)
		alikeCertified(t, c, 1-first)
		for who := range 3 {
			c = c.Twin()
			takes(t, c, alikeAcked(c, who), 0)
			fails(t, c, alikeAcked(c, who), api.ErrTwice)
		}
		seqOf(t, c, first)
	}
}

func TestALaterCertificateTakesNoAcks(t *testing.T) {
	c := alikeAsked(t)
	alikeCertified(t, c, 0)
	takes(t, c, alikeAcked(c, 0), 0)
	takes(t, c, alikeAcked(c, 1), 0)
	alikeCertified(t, c, 1)
	fails(t, c, alikeAcked(c, 0), api.ErrTwice)
	takes(t, c, alikeAcked(c, 2), 0)
	seqOf(t, c, 0)
}

// pair is two commands of one digest, they were searched for.
func pair() [2]cmd.Cmd {
	return [2]cmd.Cmd{
		{Client: 1, Nonce: 224594, From: 2, To: 7, Amount: 760664206598},
		{Client: 1, Nonce: 154886, From: 1, To: 5, Amount: 876867008555},
	}
}

func TestCommandsOfOneDigestAreAskedOneByOne(t *testing.T) {
	for i, x := range pair() {
		y := pair()[1-i]
		if cmd.Digest(x) != cmd.Digest(y) {
			t.Fatal("P901: not of one digest")
		}
		c := made(t, sample.New(1, 2))
		asks(t, c.Ask, x, api.OK)
		asks(t, c.Retry, y, api.ErrName)
		asks(t, c.Ask, x, api.ErrTwice)
		w := c.Twin()
		asks(t, c.Ask, y, api.OK)
		asks(t, w.Retry, y, api.ErrName)
		for _, z := range pair() {
			asks(t, c.Ask, z, api.ErrTwice)
			asks(t, c.Retry, z, api.OK)
		}
	}
}

// asks asks for an Ask of the command to all replicas, or for this error.
func asks(t *testing.T, call func(cmd.Cmd) ([]msg.Msg, api.Errno), x cmd.Cmd, want api.Errno) {
	t.Helper()
	l, e := call(x)
	if e != want || e != api.OK && len(l) != 0 {
		t.Fatalf("P2501: %d messages, %v, want %v", len(l), e, want)
	}
	if e == api.OK {
		toAll(t, l, msg.Msg{Kind: msg.Ask, Cmd: x})
	}
}

func TestStampsAreForTheFirstCommandOfADigest(t *testing.T) {
	for i, x := range pair() {
		y := pair()[1-i]
		s := sample.New(1, 2)
		c := made(t, s)
		asks(t, c.Ask, x, api.OK)
		takes(t, c, stamped(s.Stamp(0, x, 40)), 0)
		asks(t, c.Ask, y, api.OK)
		fails(t, c, stamped(s.Stamp(0, y, 40)), api.ErrTwice)
		takes(t, c, stamped(s.Stamp(1, y, 50)), 0)
		l := takes(t, c, stamped(s.Stamp(2, x, 60)), n)
		if certs := c.Certs(); len(certs) != 1 || certs[0].C != x || median.Valid(s.Keys, certs[0]) != api.OK {
			t.Fatalf("P2501, P9: Certs = %v, not one of the command that was asked first", certs)
		}
		certify := msg.Msg{Kind: msg.Certify, Cert: c.Certs()[0]}
		toAll(t, l, certify)
		fails(t, c, stamped(s.Stamp(3, y, 70)), api.ErrState)
		l, e := c.Retry(x)
		if e != api.OK {
			t.Errorf("P2501: Retry = %v", e)
		}
		toAll(t, l, certify)
		asks(t, c.Retry, y, api.OK)
	}
}
