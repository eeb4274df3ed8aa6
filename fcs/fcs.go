// Package fcs is layer 1, the frame check sequence of 16 bits of RFC 1662: see shared/doc/01-fcs.md.
package fcs

import (
	"portreeve/api"
)

const (
	first = 0xFFFF // where a register begins
	turn  = 0x8408 // RFC 1662's polynomial, its lowest bit being the one that is sent last
	rest  = 0xF0B8 // what stays of all bytes that end with their own check sequence
	size  = 2      // bytes of a check sequence
)

// Step is a step of a register.
func Step(sum uint16, c byte) uint16 {
	sum ^= uint16(c)
	for range 8 {
		off := sum & 1
		sum >>= 1
		if off == 1 {
			sum ^= turn
		}
	}
	return sum
}

// On is steps with all bytes.
func On(sum uint16, b []byte) uint16 {
	for _, c := range b {
		sum = Step(sum, c)
	}
	return sum
}

// Put lays bytes' check sequence behind them.
func Put(b []byte) []byte {
	// Not by append: spare room behind b is the caller's.
	out := make([]byte, len(b)+size)
	copy(out, b)
	sum := ^On(first, b)
	out[len(b)] = byte(sum)
	out[len(b)+1] = byte(sum >> 8)
	return out
}

// Good: do bytes end with their check sequence?
func Good(b []byte) bool {
	return len(b) >= size && On(first, b) == rest
}

// Cut is bytes without their check sequence.
func Cut(b []byte) ([]byte, api.Errno) {
	if len(b) < size {
		return nil, api.ErrForm
	}
	if !Good(b) {
		return nil, api.ErrSum
	}
	out := make([]byte, len(b)-size)
	copy(out, b)
	return out, api.OK
}
