package device

import (
	"jalousie/api"
	"jalousie/control"
	"jalousie/entry"
	"jalousie/group"
	"jalousie/index"
	"jalousie/keys"
	"jalousie/pad"
)

const (
	remove  = 3 // a control's op
	ofFork  = 1 // a proof's kind
	ofChain = 2
	maxTime = 1 << 40
	extra   = 16 // how many bytes a body has more than its bucket
	slot    = 48 // bytes of a slot
)

// Control makes, and takes, a control.
func (d *Device) Control(op, member int) api.Errno {
	if e := group.May(d.group, d.me, op, member); e != api.OK {
		return e
	}
	h := d.next()
	h.Control = true
	c := control.Control{Op: op, Member: member}
	if op == remove {
		c.Cut = d.Heads()[member-1]
	}
	behind := group.Behind(d.group, d.me, op, member, c.Cut)
	text, _ := control.Bytes(d.blank(c, behind))
	if e := d.may(h, len(text)); e != api.OK {
		return e
	}
	if op == handOver {
		c.Hand = control.Hand(d.box, d.secret, d.me, member, d.seed)
	} else {
		key, _ := control.Key(d.seed, behind.Epoch)
		c.Slots = control.Slots(d.box, d.secret, d.me, behind.Members, behind.Epoch, key)
	}
	text, e := control.Bytes(c)
	if e != api.OK {
		return e
	}
	return d.write(d.set, h, text)
}

// Change makes, and takes, a change of an item.
func (d *Device) Change(c entry.Change) api.Errno {
	text, e := entry.PackChange(c)
	if e != api.OK {
		return e
	}
	epoch := len(d.ring.Epochs) - 1
	if !group.Is(d.group, d.me) || epoch < 0 {
		return api.ErrState
	}
	h := d.next()
	h.Epoch = epoch
	for i := range c.Tags {
		h.Tokens = append(h.Tokens, api.Token{byte(i)})
	}
	if e := d.may(h, len(text)); e != api.OK {
		return e
	}
	h.Item = keys.Item(d.box, d.set, c.Name)
	h.Tokens = keys.Tokens(d.box, d.set, c.Tags)
	return d.write(keys.Of(d.ring.Epochs[epoch]), h, text)
}

// next is the header of the device's next entry, but for what the entry says.
func (d *Device) next() entry.Header {
	chain := d.chain(d.me)
	return entry.Header{Writer: d.me, Seq: chain.Head() + 1, Prev: chain.Tip(), Time: d.time + 1, Knows: d.Heads()}
}

// may tells whether an entry with a text of so many bytes can be written: asked ahead of anything that is drawn, so that what is refused changes nothing.
func (d *Device) may(h entry.Header, text int) api.Errno {
	if h.Seq > api.MaxSeq || h.Time > maxTime {
		return api.ErrSpent
	}
	if d.Over() {
		return api.ErrLost
	}
	bucket, e := pad.Bucket(text)
	if e != api.OK {
		return e
	}
	h.Size = bucket + extra
	if !d.room(record{kind: ofEntry, piece: index.Piece{Header: h, Body: make([]byte, h.Size)}}) {
		return api.ErrFull
	}
	return api.OK
}

// write makes an entry, and takes it.
func (d *Device) write(s keys.Set, h entry.Header, text []byte) api.Errno {
	h, body, e := entry.Make(d.box, s, h, text)
	if e != api.OK {
		return e
	}
	return d.keep(record{kind: ofEntry, piece: index.Piece{Header: h, Body: body}})
}

// blank is a control with noughts where something is drawn.
func (d *Device) blank(c control.Control, behind group.Group) control.Control {
	if c.Op == handOver {
		c.Hand = make([]byte, slot)
		return c
	}
	for i, is := range behind.Members {
		if is {
			c.Slots[i] = make([]byte, slot)
		}
	}
	return c
}
