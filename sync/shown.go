package sync

import (
	"jalousie/api"
	"jalousie/ask"
	"jalousie/filter"
	"jalousie/proof"
	"jalousie/vector"
)

// The kinds of a proof.
const (
	ofFloor = 3
	ofOmit  = 4
)

// told is a reply, with what was asked.
type told struct {
	request ask.Request
	reply   ask.Reply
	floor   vector.Vector
}

// raise raises the first thing that a reply shows.
func (s *Sync) raise(t told) api.Errno {
	for _, look := range []func(told) (proof.Proof, bool){s.below, s.unpushed, s.omitted} {
		p, shown := look(t)
		if !shown {
			continue
		}
		if e := s.device.Raise(p); e == api.ErrFull || e == api.ErrLost || e == api.ErrSpent {
			return e
		}
		if p.Kind == ofOmit {
			return api.ErrOmit
		}
		return api.ErrFloor
	}
	return api.OK
}

// below shows a head that is below the floor.
func (s *Sync) below(t told) (proof.Proof, bool) {
	for i, floor := range t.floor {
		if head := t.reply.Heads[i]; head < floor {
			return proof.Proof{Kind: ofFloor, Writer: i + 1, Floor: floor, Head: head}, true
		}
	}
	return proof.Proof{}, false
}

// unpushed shows that a relay says that it has put what it doesn't tell.
func (s *Sync) unpushed(t told) (proof.Proof, bool) {
	if t.request.Kind != push || t.reply.Err != api.OK {
		return proof.Proof{}, false
	}
	h := t.request.Piece.Header
	head := t.reply.Heads[h.Writer-1]
	if head >= h.Seq {
		return proof.Proof{}, false
	}
	return proof.Proof{Kind: ofFloor, Writer: h.Writer, Floor: h.Seq, Head: head}, true
}

// omitted shows a stub of what was wanted.
func (s *Sync) omitted(t told) (proof.Proof, bool) {
	if t.request.Kind != pull {
		return proof.Proof{}, false
	}
	w := t.request.Wish
	for _, p := range t.reply.Pieces {
		if len(p.Body) == 0 && !p.Header.Control && filter.Meets(w, p.Header) && s.device.Knows(p.Header) {
			return proof.Proof{Kind: ofOmit, A: p.Header, Wanted: w.Tokens}, true
		}
	}
	return proof.Proof{}, false
}
