package pack

import (
	"bytes"

	"riddle/api"
)

const (
	magic      = "RDL"
	headSize   = len(magic) + 1 + lenSize // what stands ahead of the body
	sumSize    = 4
	frameSize  = headSize + sumSize // a frame's bytes beside its body
	polynomial = 0xedb88320
)

// Sum gives a check sum.
func Sum(b []byte) uint32 {
	sum := ^uint32(0)
	for _, x := range b {
		sum ^= uint32(x)
		for range byteBits {
			low := sum & 1
			sum >>= 1
			if low == 1 {
				sum ^= polynomial
			}
		}
	}
	return ^sum
}

// Seal puts a body into a frame.
func Seal(version byte, body []byte) []byte {
	p := Pen{data: append([]byte(magic), version)}
	p.Bytes(body)
	p.Uint(uint64(Sum(p.data)), sumSize)
	return p.data
}

// Unseal gives the body of a frame.
func Unseal(version byte, b []byte) ([]byte, api.Errno) {
	if code := checkFrame(version, b); code != api.OK {
		return nil, code
	}
	return bytes.Clone(b[headSize : len(b)-sumSize]), api.OK
}

// checkFrame gives the first reason for which bytes aren't a frame.
func checkFrame(version byte, b []byte) api.Errno {
	if len(b) < frameSize {
		return api.ErrShort
	}
	if string(b[:len(magic)]) != magic {
		return api.ErrMagic
	}
	if b[len(magic)] != version {
		return api.ErrVersion
	}
	asked, have := number(b[len(magic)+1:headSize]), uint64(len(b)-frameSize)
	if have < asked {
		return api.ErrShort
	}
	if have > asked {
		return api.ErrTail
	}
	end := len(b) - sumSize
	if number(b[end:]) != uint64(Sum(b[:end])) {
		return api.ErrSum
	}
	return api.OK
}
