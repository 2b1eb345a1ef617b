package octet

import (
	"weft/api"
)

// place goes through bytes: all of them, how many were passed, and the first error.
type place struct {
	all []byte
	at  int
	err api.Errno
}

func (p *place) left() int {
	return len(p.all) - p.at
}

// fail keeps e, unless an error came ahead of it.
func (p *place) fail(e api.Errno) {
	if p.err == api.OK {
		p.err = e
	}
}

// pass goes past the next n bytes and shows them; what it shows is not to leave the package.
func (p *place) pass(n int) []byte {
	if n < 0 {
		p.fail(api.ErrArg)
	} else if n > p.left() {
		p.fail(api.ErrShort)
	}
	if p.err != api.OK {
		return nil
	}
	from := p.at
	p.at += n
	return p.all[from:p.at]
}
