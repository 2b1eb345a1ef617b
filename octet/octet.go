// Package octet is layer 1: numbers of several bytes, and a cursor that goes through bytes and never leaves them. See shared/doc/01-octet.md.
package octet

import (
	"weft/api"
)

const maxSize = 8

// Cursor reads numbers and bytes out of the bytes that its place goes through.
//
// A method of place can't be reached through a nil cursor, so each exported method asks for nil ahead of it.
type Cursor struct {
	place
}

// Put answers b, and behind it n in size bytes, the highest one first.
func Put(b []byte, n uint64, size int) ([]byte, api.Errno) {
	if !isSize(size) || !fits(n, size) {
		return nil, api.ErrArg
	}
	out := make([]byte, len(b)+size)
	copy(out, b)
	for i := len(out) - 1; i >= len(b); i-- {
		out[i] = byte(n)
		n >>= 8
	}
	return out, api.OK
}

// New answers a cursor at the place 0 of b.
func New(b []byte) *Cursor {
	return &Cursor{place{all: copied(b)}}
}

// Num passes size bytes and answers the number in them; 0, if there is an error.
func (c *Cursor) Num(size int) uint64 {
	if c == nil {
		return 0
	}
	if !isSize(size) {
		c.fail(api.ErrArg)
		return 0
	}
	n := uint64(0)
	for _, b := range c.pass(size) {
		n = n<<8 | uint64(b)
	}
	return n
}

// Take passes n bytes and answers them; nothing, if there is an error.
func (c *Cursor) Take(n int) []byte {
	if c == nil {
		return nil
	}
	return copied(c.pass(n))
}

// Skip passes n bytes, with the errors of Take.
func (c *Cursor) Skip(n int) {
	if c == nil {
		return
	}
	c.pass(n)
}

// Left tells how many bytes were not passed.
func (c *Cursor) Left() int {
	if c == nil {
		return 0
	}
	return c.left()
}

// At tells how many bytes were passed.
func (c *Cursor) At() int {
	if c == nil {
		return 0
	}
	return c.at
}

// Err tells the first error, or OK.
func (c *Cursor) Err() api.Errno {
	if c == nil {
		return api.ErrNil
	}
	return c.err
}

func isSize(size int) bool {
	return size >= 1 && size <= maxSize
}

// fits tells whether n can stand in size bytes; size is right.
func fits(n uint64, size int) bool {
	return size == maxSize || n>>(8*size) == 0
}

// copied keeps what the caller holds apart from what the cursor holds.
func copied(b []byte) []byte {
	if len(b) == 0 {
		return nil
	}
	out := make([]byte, len(b))
	copy(out, b)
	return out
}
