// Package octet is layer 1: see shared/doc/01-octet.md.
package octet

import "viaduct/api"

// maxWidth is the most bytes that a number has: as many as a uint64 holds.
const maxWidth = 8

// Reader takes numbers and bytes from the front of others.
type Reader struct {
	made  bool // tells a reader of New from the zero value, whose error would read OK
	bytes []byte
	at    int
	err   api.Errno
}

// New: a reader of bytes.
func New(b []byte) *Reader {
	return &Reader{made: true, bytes: extend(b, 0)}
}

// Uint: a number of n bytes.
func (r *Reader) Uint(n int) uint64 {
	if !r.ready(n, isWidth(n)) {
		return 0
	}
	var u uint64
	for _, x := range r.next(n) {
		u = u<<8 | uint64(x)
	}
	return u
}

// Bytes: n bytes.
func (r *Reader) Bytes(n int) []byte {
	if !r.ready(n, n >= 0) {
		return nil
	}
	return extend(r.next(n), 0)
}

// Left: how many bytes are left.
func (r *Reader) Left() int {
	if r == nil {
		return 0
	}
	return len(r.bytes) - r.at
}

// Err: what went wrong first.
func (r *Reader) Err() api.Errno {
	if r == nil || !r.made {
		return api.ErrNil
	}
	return r.err
}

// ready says whether n bytes can be read; if not, the reader keeps the reason, unless it had one before.
func (r *Reader) ready(n int, allowed bool) bool {
	if r.Err() != api.OK {
		return false
	}
	if !allowed {
		r.err = api.ErrArg
	} else if n > r.Left() {
		r.err = api.ErrShort
	}
	return r.err == api.OK
}

// next moves the offset by n bytes that are known to be there. They are the reader's own: not to be handed out.
func (r *Reader) next(n int) []byte {
	from := r.at
	r.at += n
	return r.bytes[from:r.at]
}

// Put: a number of n bytes behind others.
func Put(b []byte, n int, u uint64) ([]byte, api.Errno) {
	if !isWidth(n) {
		return nil, api.ErrArg
	}
	// For n = 8 the shift takes all bits away, so that every u fits.
	if u>>(8*n) != 0 {
		return nil, api.ErrBig
	}
	out := extend(b, n)
	for i := len(out) - 1; i >= len(b); i-- {
		out[i] = byte(u)
		u >>= 8
	}
	return out, api.OK
}

// Pad: noughts behind bytes, up to a multiple of four.
func Pad(b []byte) []byte {
	return extend(b, (4-len(b)%4)%4)
}

// isWidth says whether a number may have n bytes.
func isWidth(n int) bool {
	return n >= 1 && n <= maxWidth
}

// extend copies, instead of appending, so that the result never lies in the spare capacity of b.
func extend(b []byte, n int) []byte {
	out := make([]byte, len(b)+n)
	copy(out, b)
	return out
}
