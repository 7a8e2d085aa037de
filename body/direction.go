package body

import (
	"viaduct/api"
	"viaduct/octet"
)

// direction writes the numbers of a body, or reads them, one after the other.
type direction interface {
	// number passes over a number of width bytes, and answers it: u if it is written. It must be in the range from least to most.
	number(width int, least, most, u uint64) uint64
	// count answers how many parts of size bytes follow: n if they are written.
	count(size, n int) int
}

// writer makes a body of numbers; bad is set for good by one that is out of its range.
type writer struct {
	body []byte
	bad  bool
}

func (w *writer) number(width int, least, most, u uint64) uint64 {
	b, e := octet.Put(w.body, width, u)
	if e != api.OK || u < least || u > most {
		w.bad = true
		return 0
	}
	w.body = b
	return u
}

func (w *writer) count(_, n int) int {
	return n
}

// reader takes numbers from a body; bad is set for good by one that is out of its range. Those that are missing are the error of the body.
type reader struct {
	body *octet.Reader
	bad  bool
}

func (r *reader) number(width int, least, most, _ uint64) uint64 {
	u := r.body.Uint(width)
	if u < least || u > most {
		r.bad = true
		return 0
	}
	return u
}

func (r *reader) count(size, _ int) int {
	return r.body.Left() / size
}
