// Package copyblock copies reports, votes and blocks with all that they hold,
// so that nobody shares memory with what he was given.
package copyblock

import (
	"folkmoot/block"
	"folkmoot/copycert"
	"folkmoot/cut"
	"folkmoot/field"
)

// Report copies a report.
func Report(r cut.Report) cut.Report {
	r.Certs = field.Map(r.Certs, copycert.Cert)
	r.Sig = copycert.Sig(r.Sig)
	return r
}

// Vote copies a vote.
func Vote(v block.Vote) block.Vote {
	v.Sig = copycert.Sig(v.Sig)
	return v
}

// QC copies a quorum certificate.
func QC(q block.QC) block.QC {
	q.Votes = field.Map(q.Votes, Vote)
	return q
}

// Block copies a block.
func Block(b block.Block) block.Block {
	b.QC = QC(b.QC)
	b.Reports = field.Map(b.Reports, Report)
	return b
}
