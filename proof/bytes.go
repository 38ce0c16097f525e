package proof

import (
	"jalousie/api"
	"jalousie/entry"
	"jalousie/pack"
)

// Bytes is a proof, packed.
func Bytes(p Proof) ([]byte, api.Errno) {
	if !bounded(p) {
		return nil, api.ErrArg
	}
	var o pack.Out
	o.Num(uint64(p.Kind))
	switch p.Kind {
	case fork, chain:
		o.Text(entry.Bytes(p.A))
		o.Text(entry.Bytes(p.B))
	case floor:
		o.Num(uint64(p.Writer))
		o.Num(p.Floor)
		o.Num(p.Head)
	case omit:
		o.Text(entry.Bytes(p.A))
		o.Num(uint64(len(p.Wanted)))
		for _, t := range p.Wanted {
			o.Raw(t[:])
		}
	}
	return o.End()
}

// Parse is the proof that has these bytes.
func Parse(b []byte) (Proof, api.Errno) {
	in := pack.Read(b)
	p := Proof{Kind: int(in.Num(omit))}
	switch p.Kind {
	case fork, chain:
		p.A = header(in)
		p.B = header(in)
	case floor:
		p.Writer = int(in.Num(api.MaxMembers))
		p.Floor = in.Num(api.MaxSeq)
		p.Head = in.Num(api.MaxSeq)
	case omit:
		p.A = header(in)
		for range in.Num(api.MaxTags) {
			var t api.Token
			copy(t[:], in.Raw(len(t)))
			p.Wanted = append(p.Wanted, t)
		}
	}
	if !in.Over() || !bounded(p) {
		return Proof{}, api.ErrForm
	}
	return p, api.OK
}

// header is the one that stands there, a zero one if it is none: that isn't formed, so that the proof isn't bounded.
func header(in *pack.In) entry.Header {
	h, _ := entry.Parse(in.Text(api.MaxBytes))
	return h
}
