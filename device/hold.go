package device

import (
	"bytes"
	"slices"

	"jalousie/api"
	"jalousie/control"
	"jalousie/entry"
	"jalousie/filter"
	"jalousie/group"
	"jalousie/index"
	"jalousie/keys"
	"jalousie/pack"
	"jalousie/proof"
)

// handOver is the op of a control that has no slots, but a hand.
const handOver = 5

// keep puts a record into the store, and then holds what it tells.
func (d *Device) keep(r record) api.Errno {
	if e := d.store.Add(r.packed()); e != api.OK {
		return e
	}
	d.hold(r)
	return api.OK
}

// room tells whether the store has room for a record.
func (d *Device) room(r record) bool {
	var o pack.Out
	o.Text(r.packed())
	b, e := o.End()
	return e == api.OK && len(b) <= d.store.Room()
}

// fits tells whether a record can come behind what is held.
func (d *Device) fits(r record) bool {
	switch r.kind {
	case ofEntry:
		stub := len(r.piece.Body) == 0 && !r.piece.Header.Control
		return d.chain(r.piece.Header.Writer).Ask(r.piece.Header) == api.OK && (stub || index.Whole(r.piece))
	case ofBody:
		h, is := d.header(r.place)
		return is && d.lacks(index.Piece{Header: h, Body: r.piece.Body})
	case ofAlarm:
		return !d.alarmed
	case ofLife:
		return r.lives > d.lives
	}
	return true
}

// hold makes what a record tells what is held: when it is made, taken, or read again.
func (d *Device) hold(r record) {
	switch r.kind {
	case ofEntry:
		d.take(r.piece)
	case ofBody:
		d.bodies[r.place.writer-1][r.place.seq-1] = bytes.Clone(r.piece.Body)
		d.learnRow(r.place)
	case ofFilter:
		d.filter = filter.Filter{All: r.filter.All, Tags: slices.Clone(r.filter.Tags)}
		d.wish = filter.Of(d.box, d.set, d.filter)
	case ofAlarm:
		d.alarmed, d.alarm = true, copied(r.alarm)
	case ofFloor:
		d.floors[r.relay] = r.floor
	case ofLife:
		d.lives = r.lives
	}
}

// lacks tells whether a piece has the body of an item's entry that is held without it.
func (d *Device) lacks(p index.Piece) bool {
	h := p.Header
	return !h.Control && len(d.bodies[h.Writer-1][h.Seq-1]) == 0 && index.Whole(p)
}

// take puts an entry behind what is held.
func (d *Device) take(p index.Piece) {
	at := place{p.Header.Writer, p.Header.Seq}
	d.chain(at.writer).Add(p.Header)
	d.bodies[at.writer-1] = append(d.bodies[at.writer-1], bytes.Clone(p.Body))
	d.order = append(d.order, at)
	d.time = max(d.time, p.Header.Time)
	if p.Header.Control {
		d.heed(p)
		return
	}
	d.learnRow(at)
}

// heed does what a control says, if the group applies it.
func (d *Device) heed(p index.Piece) {
	text, e := entry.Open(d.box, d.set, p.Header, p.Body)
	if e != api.OK {
		return
	}
	c, e := control.Parse(text)
	if e != api.OK {
		return
	}
	next, e := group.Apply(d.group, p.Header, c)
	if e != api.OK {
		return
	}
	d.group = next
	if c.Op == handOver {
		seed, e := control.Taken(d.box, d.secret, p.Header.Writer, d.me, c)
		if c.Member == d.me && e == api.OK {
			d.seed = seed
		}
		return
	}
	if key, e := control.Mine(d.box, d.secret, p.Header.Writer, d.me, next.Epoch, c); e == api.OK {
		d.learnKey(next.Epoch, key)
	}
}

// learnKey puts an epoch's key into the ring, and those ahead of it that aren't there: what is there stays.
func (d *Device) learnKey(epoch int, key api.Hash) {
	had := len(d.ring.Epochs)
	for at := epoch; at >= had; at-- {
		d.ring.Epochs = slices.Insert(d.ring.Epochs, had, key)
		key, _ = control.Back(key, at, at-1)
	}
}

// learnRow makes an item's row known, if its body tells what its header does.
func (d *Device) learnRow(at place) {
	h, _ := d.header(at)
	body := d.bodies[at.writer-1][at.seq-1]
	s, are := proof.Keys(d.ring, h)
	if len(body) == 0 || !are {
		return
	}
	text, e := entry.Open(d.box, s, h, body)
	if e != api.OK {
		return
	}
	c, e := entry.ParseChange(text)
	if e != api.OK || keys.Item(d.box, d.set, c.Name) != h.Item || !slices.Equal(keys.Tokens(d.box, d.set, c.Tags), h.Tokens) {
		return
	}
	d.changes[at] = c
}
