package mix

import (
	"math"
	"math/big"
	"slices"
	"testing"
)

// modulus is 2^64.
func modulus() *big.Int { return new(big.Int).Lsh(big.NewInt(1), 64) }

// stirred is Stir by the document's words, in numbers that don't overflow.
func stirred(x uint64) uint64 {
	for _, part := range []struct {
		shift uint
		times uint64
	}{{30, 0xbf58476d1ce4e5b9}, {27, 0x94d049bb133111eb}, {31, 1}} {
		over := new(big.Int).SetUint64(x)
		over.Div(over, new(big.Int).Lsh(big.NewInt(1), part.shift))
		over.Xor(over, new(big.Int).SetUint64(x))
		over.Mul(over, new(big.Int).SetUint64(part.times))
		x = over.Mod(over, modulus()).Uint64()
	}
	return x
}

// share is the part of n that a draw stands for.
func share(draw uint64, n int) int {
	if n <= 1 {
		return 0
	}
	x := new(big.Int).SetUint64(draw)
	x.Mul(x, big.NewInt(int64(n)))
	return int(x.Div(x, modulus()).Int64())
}

func seeds() []uint64 {
	return []uint64{0, 1, 2, 7, 1234567, 1 << 31, 1<<63 - 1, 1 << 63, math.MaxUint64 - 1, math.MaxUint64, -0x9e3779b97f4a7c15 & math.MaxUint64}
}

// holdSame asks two sources for the same draws.
func holdSame(t *testing.T, what string, got, want *Source) {
	t.Helper()
	for i := range 4 {
		if a, b := got.Next(), want.Next(); a != b {
			t.Fatalf("%s: draw %d is %d, want %d", what, i, a, b)
		}
	}
}

func TestStir(t *testing.T) {
	if Stir(0) != 0 {
		t.Error("Stir(0)", Stir(0))
	}
	for _, x := range seeds() {
		for i := range uint64(50) {
			if got, want := Stir(x+i*0x123456789abcdef), stirred(x+i*0x123456789abcdef); got != want {
				t.Fatalf("Stir(%d): %d, want %d", x, got, want)
			}
		}
	}
}

func TestNextDraws(t *testing.T) {
	for _, c := range []struct {
		seed uint64
		want []uint64
	}{
		{0, []uint64{16294208416658607535, 7960286522194355700, 487617019471545679, 17909611376780542444}},
		{1234567, []uint64{6457827717110365317, 3203168211198807973, 9817491932198370423, 4593380528125082431, 16408922859458223821}},
	} {
		s := New(c.seed)
		for i, want := range c.want {
			if got := s.Next(); got != want {
				t.Errorf("seed %d, draw %d: %d, want %d", c.seed, i, got, want)
			}
		}
	}
	for _, seed := range seeds() {
		s, state := New(seed), seed
		for range 20 {
			state += 0x9e3779b97f4a7c15
			if got := s.Next(); got != stirred(state) {
				t.Fatalf("seed %d: %d", seed, got)
			}
		}
	}
}

func TestSourcesNeverMeet(t *testing.T) {
	a, b := New(5), New(5)
	a.Next()
	a.Shuffle(10)
	holdSame(t, "the other source", b, New(5))
}

func TestBelowIsAShareOfOneDraw(t *testing.T) {
	for _, n := range []int{math.MinInt, -5, -1, 0, 1, 2, 3, 5, 6, 1000, 1 << 31, 1 << 62, math.MaxInt - 1, math.MaxInt} {
		s, draws := New(11), New(11)
		for range 200 {
			if got, want := s.Below(n), share(draws.Next(), n); got != want {
				t.Fatalf("Below(%d): %d, want %d", n, got, want)
			}
		}
	}
}

// placeOf is the place that a weight's share falls on, by the document's words.
func placeOf(ws []int, draw uint64) int {
	sums, sum := []int{}, 0
	for _, w := range ws {
		switch {
		case w > 1<<20:
			sum += 1 << 20
		case w > 0:
			sum += w
		}
		sums = append(sums, sum)
	}
	drawn := share(draw, sum)
	for i, s := range sums {
		if s > drawn {
			return i
		}
	}
	return 0
}

func TestWeighIsAPlaceByOneDraw(t *testing.T) {
	for _, ws := range [][]int{
		nil, {}, {0}, {-1}, {0, 0, 0}, {-3, math.MinInt}, {7}, {0, 3, -5, 0}, {1, 1}, {1, 2, 3, 4}, {0, 1, 0, 2, -9, 5, 0},
		{1 << 20, 1 << 20}, {1<<20 + 1, 1 << 20}, {1 << 40, 1}, {math.MaxInt, math.MaxInt, math.MaxInt}, {1 << 20, math.MaxInt, 1 << 19}, {-1 << 40, 5, 5},
	} {
		had := slices.Clone(ws)
		s, draws := New(12), New(12)
		for range 300 {
			if got, want := s.Weigh(ws), placeOf(ws, draws.Next()); got != want {
				t.Fatalf("Weigh(%v): %d, want %d", ws, got, want)
			}
		}
		if !slices.Equal(ws, had) {
			t.Error("the weights are changed", ws)
		}
	}
}

func TestWeighFollowsTheWeights(t *testing.T) {
	s, seen := New(13), [4]int{}
	for range 10000 {
		seen[s.Weigh([]int{1, 0, 3, 6})]++
	}
	if seen[1] != 0 || seen[0] < 800 || seen[0] > 1200 || seen[2] < 2700 || seen[2] > 3300 {
		t.Error(seen)
	}
}

// shuffled is the list by the document's words, of these draws.
func shuffled(n int, draws *Source) []int {
	list := []int{}
	for i := range n {
		k := share(draws.Next(), i+1)
		if k == i {
			list = append(list, i)
			continue
		}
		list = append(list, list[k])
		list[k] = i
	}
	return list
}

func TestShuffle(t *testing.T) {
	for _, c := range []struct{ n, want int }{
		{math.MinInt, 0}, {-1, 0}, {0, 0}, {1, 1}, {2, 2}, {3, 3}, {20, 20}, {999, 999}, {1000, 1000}, {1001, 1000}, {math.MaxInt, 1000},
	} {
		s, draws := New(14), New(14)
		got := s.Shuffle(c.n)
		if !slices.Equal(got, shuffled(c.want, draws)) {
			t.Errorf("Shuffle(%d): %v", c.n, got)
		}
		holdSame(t, "behind Shuffle", s, draws)
		slices.Sort(got)
		for i, x := range got {
			if i != x {
				t.Errorf("Shuffle(%d) lacks %d", c.n, i)
			}
		}
	}
}

func TestShuffleIsNewMemory(t *testing.T) {
	a := New(15).Shuffle(5)
	b := New(15).Shuffle(5)
	had := slices.Clone(b)
	a[0] = 99
	if !slices.Equal(b, had) {
		t.Error("two answers share memory")
	}
}

func TestForkHasAStateOfItsOwn(t *testing.T) {
	for _, seed := range seeds() {
		for _, x := range seeds() {
			s, same := New(seed), New(seed)
			state := seed
			for range 3 {
				f := s.Fork(x)
				holdSame(t, "Fork", f, New(stirred(state^stirred(x+1))))
				if s.Next() != same.Next() {
					t.Fatalf("seed %d: Fork(%d) has changed its source", seed, x)
				}
				state += 0x9e3779b97f4a7c15
			}
		}
	}
}

func TestForkLastsBesideItsSource(t *testing.T) {
	s := New(16)
	f, same := s.Fork(3), s.Fork(3)
	s.Next()
	s.Next()
	holdSame(t, "a fork whose source goes on", f, same)
}

func TestNilSourceDrawsNoughts(t *testing.T) {
	var s *Source
	if s.Next() != 0 || s.Below(10) != 0 || s.Below(-1) != 0 {
		t.Error("Next, Below", s.Next(), s.Below(10))
	}
	for _, c := range []struct {
		ws   []int
		want int
	}{{nil, 0}, {[]int{0, -4}, 0}, {[]int{2, 9}, 0}, {[]int{0, -4, 0, 1, 5}, 3}} {
		if got := s.Weigh(c.ws); got != c.want {
			t.Errorf("Weigh(%v): %d, want %d", c.ws, got, c.want)
		}
	}
	for _, c := range []struct {
		n    int
		want []int
	}{{-1, nil}, {0, nil}, {1, []int{0}}, {2, []int{1, 0}}, {5, []int{4, 0, 1, 2, 3}}} {
		if got := s.Shuffle(c.n); !slices.Equal(got, c.want) {
			t.Errorf("Shuffle(%d): %v, want %v", c.n, got, c.want)
		}
	}
	if len(s.Shuffle(5000)) != 1000 {
		t.Error("Shuffle(5000)", len(s.Shuffle(5000)))
	}
	for _, x := range seeds() {
		holdSame(t, "Fork", s.Fork(x), New(stirred(x)))
	}
}
