// Package pow is layer 2: see shared/doc/02-pow.md.
package pow

import (
	"math/bits"
	"noria/api"
	"noria/fault"
)

// Size is a ring's size: a power of two.
type Size struct {
	shift uint8
}

// Of is the size of so many slots.
func Of(n int) (Size, error) {
	s, e := Up(n)
	if e != nil || s.Slots() != int64(n) {
		return Size{}, fault.Wrap("size of", int64(n), api.ErrSize)
	}
	return s, nil
}

// Up is the least size that has so many slots.
func Up(n int) (Size, error) {
	if n > 1<<api.MaxShift {
		return Size{}, fault.Wrap("size up", int64(n), api.ErrSize)
	}
	if n < 2 {
		return Size{}, nil
	}
	return Size{shift: uint8(bits.Len(uint(n - 1)))}, nil
}

// Slots is how many slots a size has.
func (s Size) Slots() int64 { return 1 << s.shift }

// Shift is which power of two a size is.
func (s Size) Shift() int { return int(s.shift) }

// Mask are the bits by which an index tells its slot.
func (s Size) Mask() int64 { return s.Slots() - 1 }

// Index is an index's slot.
func (s Size) Index(seq int64) int { return int(seq & s.Mask()) }

// Round is how often the ring went round ahead of an index; below 0 of those below 0.
func (s Size) Round(seq int64) int64 { return seq >> s.shift }

// Wrap is the index whose slot an index has next: so many ahead.
func (s Size) Wrap(seq int64) (int64, error) {
	if seq < -1 || seq > api.MaxSeq {
		return 0, fault.Wrap("wrap", seq, api.ErrRange)
	}
	return seq - s.Slots(), nil
}

// Next is the index so many further on.
func Next(seq int64, n int) (int64, error) {
	if n < 1 || n > 1<<api.MaxShift {
		return 0, fault.Wrap("next", seq, api.ErrArg)
	}
	if seq < -1 {
		return 0, fault.Wrap("next", seq, api.ErrRange)
	}
	if seq > api.MaxSeq-int64(n) {
		return 0, fault.Wrap("next", seq, api.ErrExhausted)
	}
	return seq + int64(n), nil
}

// Room is how many may be claimed, where so far was claimed, and the least of those who hold back is there.
func (s Size) Room(claimed, least int64) int64 {
	if least < -1 || least > claimed || claimed > api.MaxSeq {
		return 0
	}
	return max(0, s.Slots()-(claimed-least))
}
