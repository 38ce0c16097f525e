package device

import (
	"jalousie/api"
	"jalousie/entry"
	"jalousie/filter"
	"jalousie/index"
	"jalousie/pack"
	"jalousie/proof"
	"jalousie/vector"
)

// The kinds of a record.
const (
	ofEntry  = 1
	ofBody   = 2
	ofFilter = 3
	ofAlarm  = 4
	ofFloor  = 5
	ofLife   = 6
)

const maxLives = 1<<31 - 1

// record is what one call holds, as it is kept.
type record struct {
	kind   int
	piece  index.Piece // of an entry; of a body whose header is held alone the body
	place  place       // of a body
	filter filter.Filter
	alarm  proof.Proof
	relay  int
	floor  vector.Vector
	lives  uint64
}

// packed are a record's bytes.
func (r record) packed() []byte {
	var o pack.Out
	o.Num(uint64(r.kind))
	switch r.kind {
	case ofEntry:
		o.Text(entry.Bytes(r.piece.Header))
		o.Text(r.piece.Body)
	case ofBody:
		o.Num(uint64(r.place.writer))
		o.Num(r.place.seq)
		o.Text(r.piece.Body)
	case ofFilter:
		o.Flag(r.filter.All)
		o.Num(uint64(len(r.filter.Tags)))
		for _, tag := range r.filter.Tags {
			o.Text([]byte(tag))
		}
	case ofAlarm:
		b, _ := proof.Bytes(r.alarm)
		o.Raw(b)
	case ofFloor:
		o.Num(uint64(r.relay))
		for _, n := range r.floor {
			o.Num(n)
		}
	case ofLife:
		o.Num(r.lives)
	}
	b, _ := o.End()
	return b
}

// parse is the record that has these bytes, and whether there is one.
func parse(b []byte) (record, bool) {
	in := pack.Read(b)
	r := record{kind: int(in.Num(ofLife))}
	formed := true
	switch r.kind {
	case ofEntry:
		h, e := entry.Parse(in.Text(api.MaxBytes))
		r.piece = index.Piece{Header: h, Body: in.Text(api.MaxBytes)}
		formed = e == api.OK
	case ofBody:
		r.place = place{int(in.Num(api.MaxMembers)), in.Num(api.MaxSeq)}
		r.piece.Body = in.Text(api.MaxBytes)
	case ofFilter:
		r.filter = takeFilter(in)
		formed = filter.Formed(r.filter)
	case ofAlarm:
		p, e := proof.Parse(in.Raw(in.Left()))
		r.alarm = p
		formed = e == api.OK
	case ofFloor:
		r.relay = int(in.Num(relays - 1))
		for i := range r.floor {
			r.floor[i] = in.Num(api.MaxSeq)
		}
	case ofLife:
		r.lives = in.Num(maxLives)
	default:
		formed = false
	}
	return r, formed && in.Over()
}

func takeFilter(in *pack.In) filter.Filter {
	f := filter.Filter{All: in.Flag()}
	for range in.Num(api.MaxTags) {
		f.Tags = append(f.Tags, string(in.Text(api.MaxName)))
	}
	return f
}
