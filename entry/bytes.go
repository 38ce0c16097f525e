package entry

import (
	"jalousie/api"
	"jalousie/pack"
)

// Bytes are a formed header's: its core, and its code.
func Bytes(h Header) []byte {
	if !Formed(h) {
		return nil
	}
	return append(core(h), h.Code[:]...)
}

// Parse is the formed header that has these bytes.
func Parse(b []byte) (Header, api.Errno) {
	in := pack.Read(b)
	h := Header{
		Writer:  int(in.Num(api.MaxMembers)),
		Seq:     in.Num(api.MaxSeq),
		Prev:    takeHash(in),
		Epoch:   int(in.Num(api.MaxEpoch)),
		Control: in.Flag(),
		Time:    in.Num(maxTime),
		Item:    takeToken(in),
	}
	for range in.Num(api.MaxTags) {
		h.Tokens = append(h.Tokens, takeToken(in))
	}
	for i := range h.Knows {
		h.Knows[i] = in.Num(api.MaxSeq)
	}
	h.Sum = takeHash(in)
	h.Size = int(in.Num(api.MaxBody + extra))
	h.Code = takeHash(in)
	if !in.Over() || !Formed(h) {
		return Header{}, api.ErrForm
	}
	return h, api.OK
}

// core is what of a formed header is coded, packed.
func core(h Header) []byte {
	var o pack.Out
	o.Num(uint64(h.Writer))
	o.Num(h.Seq)
	o.Raw(h.Prev[:])
	o.Num(uint64(h.Epoch))
	o.Flag(h.Control)
	o.Num(h.Time)
	o.Raw(h.Item[:])
	o.Num(uint64(len(h.Tokens)))
	for _, t := range h.Tokens {
		o.Raw(t[:])
	}
	for _, n := range h.Knows {
		o.Num(n)
	}
	o.Raw(h.Sum[:])
	o.Num(uint64(h.Size))
	b, _ := o.End()
	return b
}

func takeHash(in *pack.In) api.Hash {
	var h api.Hash
	copy(h[:], in.Raw(len(h)))
	return h
}

func takeToken(in *pack.In) api.Token {
	var t api.Token
	copy(t[:], in.Raw(len(t)))
	return t
}
