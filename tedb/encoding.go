package tedb

import (
	"viaduct/api"
	"viaduct/octet"
)

// advertBytes is how many bytes an advert has.
const advertBytes = 88

// Encode: adverts as bytes.
func Encode(l []Advert) ([]byte, api.Errno) {
	if len(l) > api.MaxLinks {
		return nil, api.ErrBig
	}
	var b []byte
	for _, a := range l {
		if !May(a) {
			return nil, api.ErrArg
		}
		b = append(b, write(a)...)
	}
	return b, api.OK
}

// Decode: the adverts that bytes tell.
func Decode(b []byte) ([]Advert, api.Errno) {
	if len(b)%advertBytes != 0 || len(b)/advertBytes > api.MaxLinks {
		return nil, api.ErrForm
	}
	r := octet.New(b)
	var l []Advert
	for r.Left() > 0 {
		a, ok := read(r)
		if !ok {
			return nil, api.ErrForm
		}
		l = append(l, a)
	}
	return l, api.OK
}

// write is the encoding of a valid advert; its numbers fit, so that Put doesn't fail.
func write(a Advert) []byte {
	var b []byte
	put := func(n int, u uint64) { b, _ = octet.Put(b, n, u) }
	put(1, uint64(a.Link.From))
	put(1, uint64(a.Link.To))
	put(1, bit(a.Up))
	put(1, 0)
	put(4, uint64(a.Seq))
	put(8, a.Link.Cap)
	put(4, uint64(a.Link.Metric))
	put(4, uint64(a.Link.Groups))
	for _, u := range a.Free {
		put(8, u)
	}
	return b
}

// read is the advert that the next bytes tell, which are known to be enough; false: they are the encoding of no valid one.
func read(r *octet.Reader) (Advert, bool) {
	var a Advert
	a.Link.From = int(r.Uint(1))
	a.Link.To = int(r.Uint(1))
	up := r.Uint(1)
	zero := r.Uint(1)
	a.Up = up == bit(true)
	a.Seq = int(r.Uint(4))
	a.Link.Cap = r.Uint(8)
	a.Link.Metric = int(r.Uint(4))
	a.Link.Groups = uint32(r.Uint(4))
	for p := range a.Free {
		a.Free[p] = r.Uint(8)
	}
	// Each other number has one encoding only, but Up and the zero could be written in many ways.
	return a, up == bit(a.Up) && zero == 0 && May(a)
}

// bit is how a truth is encoded.
func bit(b bool) uint64 {
	if b {
		return 1
	}
	return 0
}
