package watch

import (
	"strings"

	"folkmoot/ack"
	"folkmoot/block"
	"folkmoot/cmd"
	"folkmoot/cut"
	"folkmoot/hash"
	"folkmoot/key"
	"folkmoot/median"
	"folkmoot/pace"
	"folkmoot/stamp"
	"folkmoot/world"
)

// text is what has a digest.
type text struct{ s string }

// cleaner holds what it is shown against what honest replicas signed.
type cleaner struct {
	keys   stamp.Keys
	signed map[int]map[text]struct{} // of the honest replicas
	texts  map[hash.Digest]text
	clean  bool
}

func newCleaner(w *world.World, bad []int) *cleaner {
	c := &cleaner{keys: w.Keys(), signed: map[int]map[text]struct{}{}, texts: map[hash.Digest]text{}, clean: true}
	for _, i := range honest(w, bad) {
		words := map[text]struct{}{}
		for _, s := range w.Node(i).Signed() {
			words[text{s}] = struct{}{}
			c.read(wordsDigest(s), s)
		}
		c.signed[i] = words
	}
	return c
}

// wordsDigest is the digest of Words, whose first field is the tag of their digest.
func wordsDigest(words string) hash.Digest {
	tag, _, _ := strings.Cut(strings.TrimPrefix(words, "|"), "|")
	return hash.Of(tag, words)
}

// read notes a text; two texts of one digest are not clean.
func (c *cleaner) read(d hash.Digest, s string) {
	if old, ok := c.texts[d]; ok && old.s != s {
		c.clean = false
	}
	c.texts[d] = text{s}
}

// check reads words; those with a valid signature of an honest replica must be its own.
func (c *cleaner) check(who int, s key.Sig, d hash.Digest, words string) {
	c.read(d, words)
	own, ok := c.signed[who]
	if !ok || s.Who != who || !key.Verify(c.keys.Roots[who], s, d, c.keys.Height) {
		return
	}
	if _, ok := own[text{words}]; !ok {
		c.clean = false
	}
}

func (c *cleaner) cmd(x cmd.Cmd) { c.read(cmd.Digest(x), cmd.Text(x)) }

func (c *cleaner) cert(x median.Cert) { c.read(median.Digest(x), median.Text(x)) }

func (c *cleaner) block(x block.Block) { c.read(block.Digest(x), block.Words(x)) }

func (c *cleaner) stamp(x stamp.Stamp) {
	c.check(x.Who, x.Sig, stamp.Digest(x.Cmd, x.Who, x.At), stamp.Words(x.Cmd, x.Who, x.At))
}

func (c *cleaner) ack(x ack.Ack) {
	c.check(x.Who, x.Sig, ack.Digest(x.Cert, x.Who), ack.Words(x.Cert, x.Who))
}

func (c *cleaner) report(x cut.Report) { c.check(x.Who, x.Sig, cut.Digest(x), cut.Words(x)) }

func (c *cleaner) vote(x block.Vote) {
	c.check(x.Who, x.Sig, block.VoteDigest(x.View, x.Block), block.VoteWords(x.View, x.Block))
}

func (c *cleaner) view(x pace.NewView) { c.check(x.Who, x.Sig, pace.Digest(x), pace.Words(x)) }
