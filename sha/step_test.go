package sha_test

import (
	"math/big"
	"math/bits"
	"testing"

	"scrinium/sha"
)

// primes are the first n.
func primes(n int) []int64 {
	var l []int64
next:
	for p := int64(2); len(l) < n; p++ {
		for _, q := range l {
			if p%q == 0 {
				continue next
			}
		}
		l = append(l, p)
	}
	return l
}

// behindThePoint are the first 32 bits of what is behind the point of n's root of that degree: the root of n * 2^(32*degree), rounded down, by halving.
func behindThePoint(n int64, degree int64) uint32 {
	want := new(big.Int).Lsh(big.NewInt(n), uint(32*degree))
	low, high := big.NewInt(0), new(big.Int).Lsh(big.NewInt(n), 32)
	for new(big.Int).Sub(high, low).Cmp(big.NewInt(1)) > 0 {
		mid := new(big.Int).Add(low, high)
		mid.Rsh(mid, 1)
		if new(big.Int).Exp(mid, big.NewInt(degree), nil).Cmp(want) > 0 {
			high = mid
		} else {
			low = mid
		}
	}
	return uint32(low.Uint64())
}

// turned is the exclusive or of x turned right by each of the numbers.
func turned(x uint32, by ...int) uint32 {
	var y uint32
	for _, n := range by {
		y ^= bits.RotateLeft32(x, -n)
	}
	return y
}

// plainStep is P2.1 word for word, with numbers K that are made from their roots.
func plainStep(k []uint32, state [8]uint32, block [16]uint32) [8]uint32 {
	var w [64]uint32
	copy(w[:], block[:])
	for t := 16; t < 64; t++ {
		s1 := turned(w[t-2], 17, 19) ^ w[t-2]>>10
		s0 := turned(w[t-15], 7, 18) ^ w[t-15]>>3
		w[t] = s1 + w[t-7] + s0 + w[t-16]
	}
	v := state
	for t := range 64 {
		a, b, c, e, f, g, h := v[0], v[1], v[2], v[4], v[5], v[6], v[7]
		t1 := h + turned(e, 6, 11, 25) + ((e & f) ^ (^e & g)) + k[t] + w[t]
		t2 := turned(a, 2, 13, 22) + ((a & b) ^ (a & c) ^ (b & c))
		copy(v[1:], v[:7])
		v[4] += t1
		v[0] = t1 + t2
	}
	for i := range state {
		state[i] += v[i]
	}
	return state
}

// P2.1
func TestStart(t *testing.T) {
	start := sha.Start()
	if start[0] != 0x6a09e667 || start[7] != 0x5be0cd19 {
		t.Errorf("Start: %08x", start)
	}
	for i, p := range primes(8) {
		if want := behindThePoint(p, 2); start[i] != want {
			t.Errorf("Start, number %d: %08x, want %08x", i, start[i], want)
		}
	}
}

// R3: a start that was told is its owner's.
func TestToldStartIsItsOwners(t *testing.T) {
	start := sha.Start()
	start[0] = 0
	if again := sha.Start(); again[0] != 0x6a09e667 {
		t.Errorf("Start behind a change of what it told: %08x", again)
	}
	if got := sha.Hex(sha.Of()); got != ofNothing {
		t.Errorf("Of behind a change of what Start told: %s", got)
	}
}

// P2.1: with states and blocks of bytes 0 and ff, with each single bit, and with many that are mixed.
func TestStep(t *testing.T) {
	var k []uint32
	for _, p := range primes(64) {
		k = append(k, behindThePoint(p, 3))
	}
	if k[0] != 0x428a2f98 || k[1] != 0x71374491 || k[63] != 0xc67178f2 {
		t.Fatalf("the numbers K are made wrong: %08x", k)
	}
	is := func(state [8]uint32, block [16]uint32) {
		t.Helper()
		if got, want := sha.Step(state, block), plainStep(k, state, block); got != want {
			t.Errorf("Step(%08x, %08x): %08x, want %08x", state, block, got, want)
		}
	}
	var ones [8]uint32
	var oneBlock [16]uint32
	for i := range oneBlock {
		ones[i%8], oneBlock[i] = 1<<32-1, 1<<32-1
	}
	for _, state := range [][8]uint32{{}, ones, sha.Start()} {
		is(state, [16]uint32{})
		is(state, oneBlock)
		for i := range 512 {
			block, other := [16]uint32{}, state
			block[i/32] = 1 << (i % 32)
			is(state, block)
			other[i/32%8] ^= 1 << (i % 32)
			is(other, [16]uint32{})
		}
	}
	state, block := sha.Start(), [16]uint32{}
	for range 500 {
		for i := range block {
			block[i] = block[i]*1664525 + state[i%8]
		}
		is(state, block)
		state = plainStep(k, state, block)
	}
}
