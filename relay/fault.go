package relay

import (
	"errors"

	"jalousie/api"
)

// diskFault is the store's.
type diskFault struct {
	number api.Errno
}

func (f diskFault) Error() string {
	return "the store doesn't keep it"
}

// recordFault is of a record that isn't a piece.
type recordFault struct{}

func (f recordFault) Error() string {
	return "a record isn't a piece"
}

// indexFault is of a piece that the index doesn't take.
type indexFault struct {
	number api.Errno
}

func (f indexFault) Error() string {
	return "the index doesn't take it"
}

// step tells what was done when a fault was found.
type step struct {
	what string
	err  error
}

func (s step) Error() string {
	return s.what + ": " + s.err.Error()
}

func (s step) Unwrap() error {
	return s.err
}

// number is the fault's number.
func number(err error) api.Errno {
	var ofDisk diskFault
	var ofIndex indexFault
	switch {
	case err == nil:
		return api.OK
	case errors.As(err, &ofDisk):
		return ofDisk.number
	case errors.As(err, &ofIndex):
		return ofIndex.number
	}
	return api.ErrForm
}

// stale is the fault's number where what was kept is read again: there an index that doesn't take it shows a record of another form.
func stale(err error) api.Errno {
	var ofIndex indexFault
	if errors.As(err, &ofIndex) {
		return api.ErrForm
	}
	return number(err)
}
