package device

import (
	"slices"

	"jalousie/api"
	"jalousie/entry"
	"jalousie/filter"
	"jalousie/index"
	"jalousie/proof"
	"jalousie/vector"
)

// Take takes a piece that somebody told.
func (d *Device) Take(p index.Piece) api.Errno {
	if !entry.Formed(p.Header) {
		return api.ErrArg
	}
	chain := d.chain(p.Header.Writer)
	asked := chain.Ask(p.Header)
	switch {
	case asked == api.ErrOld && d.lacks(p):
		return d.keep(record{kind: ofBody, place: place{p.Header.Writer, p.Header.Seq}, piece: p})
	case asked == api.ErrOld:
		return api.ErrOld
	case !d.Knows(p.Header):
		return api.ErrSeal
	case asked == api.ErrFork:
		held, _ := chain.At(p.Header.Seq)
		return d.accuse(proof.Proof{Kind: ofFork, A: held, B: p.Header}, asked)
	case asked == api.ErrChain:
		held, _ := chain.At(p.Header.Seq - 1)
		return d.accuse(proof.Proof{Kind: ofChain, A: held, B: p.Header}, asked)
	case asked != api.OK:
		return asked
	case !vector.Ready(d.Heads(), p.Header):
		return api.ErrState
	case (p.Header.Control || len(p.Body) > 0) && !index.Whole(p):
		return api.ErrForm
	}
	return d.keep(record{kind: ofEntry, piece: p})
}

// SetFilter makes f the filter.
func (d *Device) SetFilter(f filter.Filter) api.Errno {
	if !filter.Formed(f) {
		return api.ErrArg
	}
	return d.keep(record{kind: ofFilter, filter: f})
}

// Raise raises the alarm.
func (d *Device) Raise(p proof.Proof) api.Errno {
	switch {
	case d.box == nil || !proof.Check(d.box, d.ring, p):
		return api.ErrArg
	case d.alarmed:
		return api.ErrOld
	}
	return d.keep(record{kind: ofAlarm, alarm: p})
}

// Lift makes a relay's floor as great as v.
func (d *Device) Lift(relay int, v vector.Vector) api.Errno {
	if relay < 0 || relay >= relays || slices.Max(v[:]) > api.MaxSeq {
		return api.ErrArg
	}
	if d.Over() {
		return api.ErrLost
	}
	floor := vector.Join(d.floors[relay], v)
	if floor == d.floors[relay] {
		return api.OK
	}
	return d.keep(record{kind: ofFloor, relay: relay, floor: floor})
}

// Begin begins a life, and tells how many there are then.
func (d *Device) Begin() (uint64, api.Errno) {
	if d.lives >= maxLives {
		return 0, api.ErrSpent
	}
	if e := d.keep(record{kind: ofLife, lives: d.lives + 1}); e != api.OK {
		return 0, e
	}
	return d.lives, api.OK
}

// Compact makes the store's records as few as what is held needs.
func (d *Device) Compact() api.Errno {
	var l [][]byte
	for _, at := range d.order {
		p, _ := d.Piece(at.writer, at.seq)
		l = append(l, record{kind: ofEntry, piece: p}.packed())
	}
	if d.filter.All || len(d.filter.Tags) > 0 {
		l = append(l, record{kind: ofFilter, filter: d.filter}.packed())
	}
	if d.alarmed {
		l = append(l, record{kind: ofAlarm, alarm: d.alarm}.packed())
	}
	for relay, floor := range d.floors {
		if floor != (vector.Vector{}) {
			l = append(l, record{kind: ofFloor, relay: relay, floor: floor}.packed())
		}
	}
	if d.lives > 0 {
		l = append(l, record{kind: ofLife, lives: d.lives}.packed())
	}
	return d.store.Compact(l)
}

// accuse raises the alarm, if none is, and tells what was asked, unless the alarm can't be kept.
func (d *Device) accuse(p proof.Proof, asked api.Errno) api.Errno {
	if e := d.Raise(p); e != api.OK && e != api.ErrOld {
		return e
	}
	return asked
}
