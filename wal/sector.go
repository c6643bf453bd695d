package wal

import (
	"iter"
	"math"

	"veilstone/api"
)

// Places in a sector.
const (
	sumAt    = 4
	numberAt = 8
	flagsAt  = 10
	sizeAt   = 11
	dataAt   = 12
	endAt    = 124

	dataSize      = endAt - dataAt
	maxGeneration = math.MaxUint32
)

// Flags of a sector.
const (
	begins = 1
	ends   = 2
)

// sector is the contents of a sector.
type sector [api.SectorSize]byte

func (s *sector) put(at int, n uint32) {
	s[at], s[at+1], s[at+2], s[at+3] = byte(n>>24), byte(n>>16), byte(n>>8), byte(n)
}

// number returns the number in four bytes.
func number(b []byte) uint32 {
	return uint32(b[0])<<24 | uint32(b[1])<<16 | uint32(b[2])<<8 | uint32(b[3])
}

// layOut returns the sectors of a record from a sector number on.
func layOut(record []byte, at int, generation uint32) (l []sector) {
	many := occupied(record)
	for i := range many {
		var s sector
		s.put(0, generation)
		s[numberAt], s[numberAt+1] = byte((at+i)>>8), byte(at+i)
		if i == 0 {
			s[flagsAt] |= begins
		}
		if i == many-1 {
			s[flagsAt] |= ends
		}
		n := copy(s[dataAt:endAt], record[i*dataSize:])
		s[sizeAt] = byte(n)
		s.put(sumAt, Sum(s[numberAt:endAt]))
		s.put(endAt, generation)
		l = append(l, s)
	}
	return l
}

// isGood reports whether a sector is good for a number.
func isGood(s []byte, k int) bool {
	size, flags := int(s[sizeAt]), s[flagsAt]
	if number(s) == 0 || number(s) != number(s[endAt:]) || int(s[numberAt])<<8|int(s[numberAt+1]) != k || flags > begins|ends {
		return false
	}
	if size > dataSize || flags&ends == 0 && size != dataSize || flags&begins == 0 && size < 1 {
		return false
	}
	for _, b := range s[dataAt+size : endAt] {
		if b != 0 {
			return false
		}
	}
	return number(s[sumAt:]) == Sum(s[numberAt:endAt])
}

// records enumerates the records in the sectors of a log.
func records(l [][]byte) iter.Seq[[]byte] {
	return func(yield func([]byte) bool) {
		var before uint32 // the generation of the record before
	read:
		for at := 0; at < len(l); {
			first := l[at]
			if !isGood(first, at) || first[flagsAt]&begins == 0 || number(first) < before {
				return
			}
			before = number(first)
			record := []byte{}
			for {
				s := l[at]
				record = append(record, s[dataAt:dataAt+int(s[sizeAt])]...)
				at++
				if s[flagsAt]&ends != 0 {
					if !yield(record) {
						return
					}
					continue read
				}
				if at == len(l) || !isGood(l[at], at) || number(l[at]) != before || l[at][flagsAt]&begins != 0 {
					return
				}
			}
		}
	}
}

// newest returns the greatest number that is where sectors have their generations.
func newest(l [][]byte) (n uint32) {
	for _, s := range l {
		n = max(n, number(s), number(s[endAt:]))
	}
	return n
}
