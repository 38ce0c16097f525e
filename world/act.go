package world

import (
	"jalousie/api"
	"jalousie/ask"
	"jalousie/net"
)

// The kinds of an act.
const (
	toControl    = 0
	toChange     = 1
	toSift       = 2
	toAsk        = 3
	toDeliver    = 4
	toLose       = 5
	toDouble     = 6
	toCrash      = 7
	toCrashRelay = 8
	toFuse       = 9
	toTurn       = 10
	toCompact    = 11
	toLeak       = 12
)

// Do does an act.
func (w *World) Do(a Act) api.Errno {
	if len(w.seats) == 0 {
		return api.ErrArg
	}
	i, k := round(a.Who, len(w.seats)), round(a.Relay, len(w.posts))
	switch a.Kind {
	case toControl, toChange, toSift, toAsk, toCompact, toLeak:
		if w.seats[i].device == nil {
			return api.ErrLost
		}
		return w.byDevice(i, k, a)
	default:
		return w.around(i, k, a)
	}
}

// byDevice does what a device that is up does.
func (w *World) byDevice(i, k int, a Act) api.Errno {
	s := &w.seats[i]
	switch a.Kind {
	case toControl:
		return s.device.Control(a.Op, a.Member)
	case toChange:
		return s.device.Change(a.Change)
	case toSift:
		return s.device.SetFilter(a.Filter)
	case toAsk:
		return w.request(i, k)
	case toCompact:
		return s.device.Compact()
	}
	w.leak(s)
	return api.OK
}

// leak tells a device's keys, the group's first.
func (w *World) leak(s *seat) {
	s.leaked = true
	r := s.device.Ring()
	told := r.Group[:]
	for _, key := range r.Epochs {
		told = append(told, key[:]...)
	}
	w.trace = append(w.trace, told)
}

// around does what is done to letters and disks.
func (w *World) around(i, k int, a Act) api.Errno {
	switch a.Kind {
	case toDeliver:
		return w.deliver(a.I)
	case toLose:
		if _, is := w.net.Take(a.I); !is {
			return api.ErrNone
		}
		return api.OK
	case toDouble:
		if w.net.Count() == 0 {
			return api.ErrNone
		}
		if !w.net.Double(a.I) {
			return api.ErrFull
		}
		return api.OK
	case toCrash:
		w.seats[i].disk.Crash(a.Fate)
		return w.seats[i].open(w.box)
	case toCrashRelay:
		w.posts[k].disk.Crash(a.Fate)
		return w.posts[k].open()
	case toFuse:
		if a.Member > 0 {
			w.posts[k].disk.Fuse(a.N)
			return api.OK
		}
		w.seats[i].disk.Fuse(a.N)
		return api.OK
	case toTurn:
		return w.turn(a.I, a.Bytes)
	}
	return api.ErrArg
}

// request sends what a device asks a relay. If there is no room for a letter nothing is asked, so that nothing changes.
func (w *World) request(i, k int) api.Errno {
	s := &w.seats[i]
	if w.net.Count() >= api.MaxWay {
		if _, raised := s.device.Alarm(); raised {
			return api.ErrState
		}
		if s.device.Over() {
			return api.ErrLost
		}
		return api.ErrFull
	}
	b, e := s.sync.Ask(k)
	if e != api.OK {
		return e
	}
	if !w.net.Send(net.Letter{From: i, To: relayEnds + k, Bytes: b}) {
		return api.ErrFull
	}
	w.trace = append(w.trace, b)
	return api.OK
}

// deliver takes a letter off, for the end that it is to.
func (w *World) deliver(at int) api.Errno {
	l, is := w.net.Take(at)
	if !is {
		return api.ErrNone
	}
	if l.To < relayEnds {
		s := w.seats[l.To]
		if s.sync == nil {
			return api.ErrLost
		}
		return s.sync.Take(l.From-relayEnds, l.Bytes)
	}
	p := w.posts[l.To-relayEnds]
	if p.relay == nil {
		return api.ErrLost
	}
	told, served := ask.Serve(p.relay, l.Bytes)
	if served && !w.net.Send(net.Letter{From: l.To, To: l.From, Bytes: told}) {
		return api.ErrFull
	}
	return api.OK
}

// turn gives a letter other bytes, if it is of a relay that may lie.
func (w *World) turn(at int, b []byte) api.Errno {
	l, is := w.net.At(at)
	if !is || l.From < relayEnds || w.posts[l.From-relayEnds].honest || !w.net.Turn(at, b) {
		return api.ErrNone
	}
	return api.OK
}

// round is a number of n things, which goes round.
func round(i, n int) int {
	return max(i, 0) % n
}
