package ask

import (
	"bytes"
	"math"

	"jalousie/api"
	"jalousie/entry"
	"jalousie/index"
	"jalousie/pack"
	"jalousie/pad"
	"jalousie/vector"
)

// end stands behind a reply's packed bytes, ahead of the noughts.
const end = 1

// Bytes is a formed request, packed.
func Bytes(q Request) ([]byte, api.Errno) {
	if !Formed(q) {
		return nil, api.ErrArg
	}
	var o pack.Out
	o.Num(q.ID)
	o.Num(uint64(q.Kind))
	switch q.Kind {
	case push:
		putPiece(&o, q.Piece)
	case pull:
		putVector(&o, q.Cursor)
		o.Flag(q.Wish.All)
		o.Num(uint64(len(q.Wish.Tokens)))
		for _, t := range q.Wish.Tokens {
			o.Raw(t[:])
		}
		o.Num(uint64(q.Most))
	case fetch:
		o.Num(uint64(q.Writer))
		o.Num(q.Seq)
	}
	return o.End()
}

// Parse is the formed request that has these bytes.
func Parse(b []byte) (Request, api.Errno) {
	in := pack.Read(b)
	q := Request{ID: in.Num(math.MaxUint64), Kind: int(in.Num(fetch))}
	switch q.Kind {
	case push:
		q.Piece = takePiece(in)
	case pull:
		q.Cursor = takeVector(in)
		q.Wish.All = in.Flag()
		for range in.Num(api.MaxTags) {
			var t api.Token
			copy(t[:], in.Raw(len(t)))
			q.Wish.Tokens = append(q.Wish.Tokens, t)
		}
		q.Most = int(in.Num(api.MaxBatch))
	case fetch:
		q.Writer = int(in.Num(api.MaxMembers))
		q.Seq = in.Num(api.MaxSeq)
	}
	if !in.Over() || !Formed(q) {
		return Request{}, api.ErrForm
	}
	return q, api.OK
}

// ReplyBytes is a formed reply, packed, and filled up: so its length tells little of what it has.
func ReplyBytes(r Reply) ([]byte, api.Errno) {
	if !FormedReply(r) {
		return nil, api.ErrArg
	}
	var o pack.Out
	o.Num(r.ID)
	o.Num(uint64(r.Kind))
	o.Num(uint64(r.Err))
	putVector(&o, r.Heads)
	o.Num(uint64(len(r.Pieces)))
	for _, p := range r.Pieces {
		putPiece(&o, p)
	}
	packed, e := o.End()
	if e != api.OK {
		return nil, e
	}
	b := make([]byte, pad.Batch(len(packed)+1))
	copy(b, packed)
	b[len(packed)] = end
	return b, api.OK
}

// ParseReply is the formed reply that has these bytes.
func ParseReply(b []byte) (Reply, api.Errno) {
	packed, ended := bytes.CutSuffix(bytes.TrimRight(b, "\x00"), []byte{end})
	if !ended || len(b) != pad.Batch(len(packed)+1) {
		return Reply{}, api.ErrForm
	}
	in := pack.Read(packed)
	r := Reply{
		ID:    in.Num(math.MaxUint64),
		Kind:  int(in.Num(fetch)),
		Err:   api.Errno(in.Num(uint64(api.ErrSpent))),
		Heads: takeVector(in),
	}
	for range in.Num(api.MaxBatch) {
		r.Pieces = append(r.Pieces, takePiece(in))
	}
	if !in.Over() || !FormedReply(r) {
		return Reply{}, api.ErrForm
	}
	return r, api.OK
}

func putPiece(o *pack.Out, p index.Piece) {
	o.Text(entry.Bytes(p.Header))
	o.Text(p.Body)
}

// takePiece is the piece that stands there; where its header is none it is a zero one, which isn't formed.
func takePiece(in *pack.In) index.Piece {
	h, _ := entry.Parse(in.Text(api.MaxBytes))
	return index.Piece{Header: h, Body: in.Text(api.MaxBytes)}
}

func putVector(o *pack.Out, v vector.Vector) {
	for _, n := range v {
		o.Num(n)
	}
}

func takeVector(in *pack.In) vector.Vector {
	var v vector.Vector
	for i := range v {
		v[i] = in.Num(api.MaxSeq)
	}
	return v
}
