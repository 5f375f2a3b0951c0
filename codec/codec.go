// Package codec is layer 1: numbers, texts, frames and keys as bytes: see shared/doc/01-codec.md.
package codec

import "cormorant/api"

const (
	more     = 128 // is added to each byte of a number that is not its last one
	mostLong = 10  // bytes of a number
	sumBytes = 4
	intBytes = 8
	topBit   = 1 << 63
)

// sums has for each four bits what the register is combined with when these are shifted out.
var sums = [16]uint32{
	0x00000000, 0x1DB71064, 0x3B6E20C8, 0x26D930AC, 0x76DC4190, 0x6B6B51F4, 0x4DB26158, 0x5005713C,
	0xEDB88320, 0xF00F9344, 0xD6D6A3E8, 0xCB61B38C, 0x9B64C2B0, 0x86D3D2D4, 0xA00AE278, 0xBDBDF21C,
}

// Number is a number's bytes.
func Number(n uint64) []byte {
	var b []byte
	for n >= more {
		b = append(b, byte(n)|more)
		n >>= 7
	}
	return append(b, byte(n))
}

// TakeNumber reads one off the front of bytes; how many it has.
func TakeNumber(b []byte) (uint64, int, api.Errno) {
	var n uint64
	for i, c := range b {
		if i == mostLong-1 && c > 1 {
			return 0, 0, api.ErrCodecForm
		}
		n |= uint64(c&^more) << (7 * i)
		if c < more {
			if c == 0 && i > 0 {
				return 0, 0, api.ErrCodecForm
			}
			return n, i + 1, api.OK
		}
	}
	return 0, 0, api.ErrCodecShort
}

// Text is bytes with their number ahead.
func Text(s []byte) ([]byte, api.Errno) {
	if len(s) > api.MaxFrame {
		return nil, api.ErrCodecLong
	}
	return append(Number(uint64(len(s))), s...), api.OK
}

// TakeText reads some.
func TakeText(b []byte) ([]byte, int, api.Errno) {
	n, k, e := TakeNumber(b)
	if e != api.OK {
		return nil, 0, e
	}
	if n > api.MaxFrame {
		return nil, 0, api.ErrCodecLong
	}
	end := k + int(n)
	if len(b) < end {
		return nil, 0, api.ErrCodecShort
	}
	return fresh(b[k:end]), end, api.OK
}

func fresh(b []byte) []byte {
	return append([]byte{}, b...)
}

// Sum is the check sum of bytes.
func Sum(b []byte) uint32 {
	return ^sumOn(^uint32(0), b)
}

func sumOn(r uint32, b []byte) uint32 {
	for _, c := range b {
		r ^= uint32(c)
		r = r>>4 ^ sums[r&15]
		r = r>>4 ^ sums[r&15]
	}
	return r
}

// Frame is a body with its kind, its length and its sum ahead.
func Frame(kind byte, body []byte) ([]byte, api.Errno) {
	if len(body) > api.MaxFrame {
		return nil, api.ErrCodecLong
	}
	head := append([]byte{kind}, Number(uint64(len(body)))...)
	s := ^sumOn(sumOn(^uint32(0), head), body)
	b := make([]byte, 0, len(head)+sumBytes+len(body))
	b = append(b, head...)
	b = append(b, byte(s), byte(s>>8), byte(s>>16), byte(s>>24))
	return append(b, body...), api.OK
}

// TakeFrame reads one.
func TakeFrame(b []byte) (byte, []byte, int, api.Errno) {
	if len(b) == 0 {
		return 0, nil, 0, api.ErrCodecShort
	}
	n, k, e := TakeNumber(b[1:])
	if e != api.OK {
		return 0, nil, 0, e
	}
	if n > api.MaxFrame {
		return 0, nil, 0, api.ErrCodecLong
	}
	head := 1 + k
	from := head + sumBytes
	end := from + int(n)
	if len(b) < end {
		return 0, nil, 0, api.ErrCodecShort
	}
	s := ^sumOn(sumOn(^uint32(0), b[:head]), b[from:end])
	if b[head] != byte(s) || b[head+1] != byte(s>>8) || b[head+2] != byte(s>>16) || b[head+3] != byte(s>>24) {
		return 0, nil, 0, api.ErrCodecSum
	}
	return b[0], fresh(b[from:end]), end, api.OK
}

// KeyInt is a number's bytes that are ordered as the numbers are.
func KeyInt(n int64) []byte {
	u := uint64(n) ^ topBit
	b := make([]byte, intBytes)
	for i := range b {
		b[i] = byte(u >> (56 - 8*i))
	}
	return b
}

// TakeKeyInt reads one.
func TakeKeyInt(b []byte) (int64, int, api.Errno) {
	if len(b) < intBytes {
		return 0, 0, api.ErrCodecShort
	}
	var u uint64
	for _, c := range b[:intBytes] {
		u = u<<8 | uint64(c)
	}
	return int64(u ^ topBit), intBytes, api.OK
}

// KeyText is a text's bytes that are ordered as the texts are, whatever stands behind them.
func KeyText(s []byte) []byte {
	b := make([]byte, 0, len(s)+2)
	for _, c := range s {
		b = append(b, c)
		if c == 0 {
			b = append(b, 255)
		}
	}
	return append(b, 0, 1)
}

// TakeKeyText reads one.
func TakeKeyText(b []byte) ([]byte, int, api.Errno) {
	s := []byte{}
	for i := 0; i < len(b); i++ {
		if b[i] != 0 {
			s = append(s, b[i])
			continue
		}
		i++
		if i == len(b) {
			break
		}
		switch b[i] {
		case 255:
			s = append(s, 0)
		case 1:
			return s, i + 1, api.OK
		default:
			return nil, 0, api.ErrCodecForm
		}
	}
	return nil, 0, api.ErrCodecShort
}

// Compare is the order of bytes.
func Compare(a, b []byte) int {
	for i := range min(len(a), len(b)) {
		if a[i] != b[i] {
			return sign(int(a[i]) - int(b[i]))
		}
	}
	return sign(len(a) - len(b))
}

func sign(d int) int {
	switch {
	case d < 0:
		return -1
	case d > 0:
		return 1
	}
	return 0
}
