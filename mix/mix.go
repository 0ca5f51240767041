// Package mix is layer 2: see shared/doc/02-mix.md.
package mix

import "math/bits"

const (
	step       = 0x9e3779b97f4a7c15
	mostWeight = 1 << 20
	mostPlaces = 1000
)

// Source is where draws come from.
type Source struct {
	state uint64
}

// New is a source of a seed.
func New(seed uint64) *Source { return &Source{state: seed} }

// Stir mixes a number's bits.
func Stir(x uint64) uint64 {
	x = (x ^ x>>30) * 0xbf58476d1ce4e5b9
	x = (x ^ x>>27) * 0x94d049bb133111eb
	return x ^ x>>31
}

// Next is the next draw.
func (s *Source) Next() uint64 {
	if s == nil {
		return 0
	}
	s.state += step
	return Stir(s.state)
}

// Below is a draw from 0 to n - 1.
func (s *Source) Below(n int) int {
	// The draw is made whatever n is, so that what comes later doesn't hang on n.
	x := s.Next()
	high, _ := bits.Mul64(x, uint64(max(n, 0)))
	return int(high)
}

// Weigh is a draw of a place, the likelier the greater its weight.
func (s *Source) Weigh(ws []int) int {
	sum := 0
	for _, w := range ws {
		sum += weight(w)
	}
	drawn := s.Below(sum)
	for i, w := range ws {
		drawn -= weight(w)
		if drawn < 0 {
			return i
		}
	}
	return 0
}

// Shuffle is the numbers from 0 to n - 1 in some order.
func (s *Source) Shuffle(n int) []int {
	n = min(max(n, 0), mostPlaces)
	list := make([]int, n)
	for i := range n {
		k := s.Below(i + 1)
		list[i] = list[k]
		list[k] = i
	}
	return list
}

// Fork is a source of its own, by a number.
func (s *Source) Fork(x uint64) *Source {
	if s == nil {
		return New(Stir(x))
	}
	return New(Stir(s.state ^ Stir(x+1)))
}

// weight is a weight, as it counts.
func weight(w int) int { return min(max(w, 0), mostWeight) }
