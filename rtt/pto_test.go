package rtt

import (
	"math"
	"math/big"
	"math/rand/v2"
	"testing"
)

func TestPTO(t *testing.T) {
	const most = math.MaxInt64
	for _, x := range []struct {
		say         string
		base, extra int64
		count       int
		most, want  int64
	}{
		{"an example", 300000, 25000, 0, 1e9, 325000},
		{"an example", 300000, 25000, 3, 1e9, 2600000},
		{"an example", 300000, 25000, 20, 1e9, 1e9},
		{"an example", 1, 0, 200, 1 << 50, 1 << 50},
		{"an example", 0, 0, 200, 5, 0},
		{"a count of 1", 300000, 25000, 1, 1e9, 650000},
		{"just below most", 3, 4, 2, 29, 28},
		{"at most", 3, 4, 2, 28, 28},
		{"just above most", 3, 4, 2, 27, 27},
		{"most between two counts", 3, 4, 3, 29, 29},
		{"extra alone", 0, 5, 1, 100, 10},
		{"base alone", 5, 0, 1, 100, 10},
		{"a most of 0", 1, 1, 0, 0, 0},
		{"a most of 0, and nothing", 0, 0, 0, 0, 0},
		{"a most of 1", 1, 0, 0, 1, 1},
		{"a base below 0", -1, 7, 1, 100, 14},
		{"the least base", math.MinInt64, 7, 1, 100, 14},
		{"an extra below 0", 7, -1, 1, 100, 14},
		{"the least extra", 7, math.MinInt64, 1, 100, 14},
		{"a count below 0", 7, 0, -1, 100, 7},
		{"the least count", 7, 0, math.MinInt, 100, 7},
		{"a most below 0", 7, 0, 1, -1, 0},
		{"the least most", 7, 0, 1, math.MinInt64, 0},
		{"all below 0", -5, -5, -5, -5, 0},
		{"all of them the least", math.MinInt64, math.MinInt64, math.MinInt, math.MinInt64, 0},
		{"a count of 62", 1, 0, 62, most, 1 << 62},
		{"a count of 62, of both", 1, 1, 62, most, most},
		{"a count of 62, capped", 1, 0, 62, 1<<62 - 1, 1<<62 - 1},
		{"a count of 62, of nothing", 0, 0, 62, most, 0},
		{"a count of 63", 1, 0, 63, most, most},
		{"a count of 63, of nothing", 0, 0, 63, most, 0},
		{"a count of 64", 1, 0, 64, most, most},
		{"a count of 64, of much", most, most, 64, most, most},
		{"a count of 64, of nothing", 0, 0, 64, most, 0},
		{"a count of 64, of 2^32", 1 << 32, 0, 64, 7, 7},
		{"a count of 65", 1, 0, 65, most, most},
		{"a count of 128", 1, 0, 128, most, most},
		{"a count of 200", 1, 0, 200, most, most},
		{"a count of 256", 1, 0, 256, most, most},
		{"a count of 2^32", 1, 0, 1 << 32, most, most},
		{"the greatest count", 1, 0, math.MaxInt, most, most},
		{"the greatest count, of nothing", 0, 0, math.MaxInt, most, 0},
		{"the greatest count, and a most of 0", 1, 0, math.MaxInt, 0, 0},
		{"a sum above every int64", most, most, 0, most, most},
		{"a sum above it by one", most, 1, 0, most, most},
		{"a sum at it", most - 1, 1, 0, most, most},
		{"a sum at it, capped by one less", most - 1, 1, 0, most - 1, most - 1},
		{"a sum above every int64, and a small most", most, most, 0, 9, 9},
		{"a product above every int64 by one", 1 << 62, 0, 1, most, most},
		{"a product of 2^64", 1 << 62, 0, 2, most, most},
		{"a sum and a product above every int64", most, most, 1, most, most},
		{"a sum that wraps round, if it is cut", 1 << 62, 1 << 62, 1, most, most},
		{"a product at the greatest even one", 1<<62 - 1, 0, 1, most, most - 1},
	} {
		if got := PTO(x.base, x.extra, x.count, x.most); got != x.want {
			t.Errorf("P9.5: %s: PTO(%d, %d, %d, %d) = %d, want %d", x.say, x.base, x.extra, x.count, x.most, got, x.want)
		}
	}
}

// reckoned is the chapter's words in whole numbers of any size; of a count above 130 all but 0 is above every int64 anyway.
func reckoned(base, extra int64, count int, most int64) int64 {
	n := new(big.Int).Add(big.NewInt(max(base, 0)), big.NewInt(max(extra, 0)))
	n.Lsh(n, uint(min(max(count, 0), 130)))
	if bound := big.NewInt(max(most, 0)); n.Cmp(bound) > 0 {
		n = bound
	}
	return n.Int64()
}

// near gives numbers of all sizes, and those around powers of two.
func near(r *rand.Rand) int64 {
	x := int64(r.Uint64() >> r.IntN(64))
	switch r.IntN(4) {
	case 0:
		x = 1<<r.IntN(63) + int64(r.IntN(3)) - 1
	case 1:
		x = math.MaxInt64 - int64(r.IntN(3))
	}
	return x
}

func TestPTOAsReckoned(t *testing.T) {
	r := rand.New(rand.NewPCG(9, 5))
	for range 200000 {
		base, extra, most := near(r), near(r), near(r)
		count := r.IntN(70) - 2
		if r.IntN(8) == 0 {
			count = int(near(r))
		}
		if got, want := PTO(base, extra, count, most), reckoned(base, extra, count, most); got != want {
			t.Fatalf("P9.5: PTO(%d, %d, %d, %d) = %d, want %d", base, extra, count, most, got, want)
		}
	}
}

// Where the product is most, or lies beside it, by each count.
func TestPTOBesideItsCap(t *testing.T) {
	for count := range 63 {
		for _, sum := range []int64{1, 2, 3, 5, 1 << 20} {
			product := new(big.Int).Lsh(big.NewInt(sum), uint(count))
			if !product.IsInt64() || product.Int64() == math.MaxInt64 {
				continue
			}
			p := product.Int64()
			for _, x := range []struct{ most, want int64 }{{p - 1, p - 1}, {p, p}, {p + 1, p}} {
				if got := PTO(sum-1, 1, count, x.most); got != x.want {
					t.Errorf("P9.5: PTO(%d, 1, %d, %d) = %d, want %d", sum-1, count, x.most, got, x.want)
				}
			}
		}
	}
}
