package meter_test

import (
	"math/big"
	"math/rand"
	"testing"

	"portreeve/api"
	"portreeve/book"
	"portreeve/meter"
)

// most is as many octets as a meter can tell.
const most = 18446744073709551615

// octets are numbers of octets that a meter may have: few, and such that little, or half of all, is lacking to the most.
var octets = []uint64{0, 1, 2, 1499, 1 << 31, 1<<32 - 1, 1 << 32, 1<<63 - 1, 1 << 63, 1<<63 + 1, most - 1<<63, most - 1500, most - 2, most - 1, most}

// counts are numbers that may be counted: below 0, few, and the greatest there are.
var counts = []int{-9223372036854775808, -9223372036854775807, -4294967296, -2, -1, 0, 1, 2, 3, 1500, 4294967295, 4294967296, 9223372036854775806, 9223372036854775807}

// rightOnes are right meters: all Lefts, with octets of both sides that differ.
func rightOnes() []api.Meter {
	var out []api.Meter
	for left := range 7 {
		for i, n := range octets {
			out = append(out, api.Meter{In: n, Out: octets[(i+4)%len(octets)], Left: left})
		}
	}
	return out
}

// counted is how many octets there are behind a count, reckoned in whole numbers of any size.
func counted(had uint64, n int) uint64 {
	sum := new(big.Int).SetUint64(had)
	if n > 0 {
		sum.Add(sum, big.NewInt(int64(n)))
	}
	if !sum.IsUint64() {
		return most
	}
	return sum.Uint64()
}

// ticked is a meter behind some ticks, and at which of them, from 1 on, an interim was due.
func ticked(m api.Meter, ticks int) (api.Meter, []int) {
	var due []int
	for i := range ticks {
		next, is := meter.Tick(m)
		if is {
			due = append(due, i+1)
		}
		m = next
	}
	return m, due
}

// drawnCount is a number to count: mostly few, at times below 0 or a great one.
func drawnCount(r *rand.Rand) int {
	switch r.Intn(12) {
	case 0:
		return -r.Intn(1 << 40)
	case 1:
		return r.Int()
	}
	return r.Intn(1501)
}

// opened is a book with session 0 in it, which is ann's.
func opened(t *testing.T) api.Book {
	t.Helper()
	return done(t, api.Book{}, api.Op{Kind: 1, Link: 3, Addr: 167772161, User: "ann"})
}

// done is a book behind an op that can be done.
func done(t *testing.T, b api.Book, o api.Op) api.Book {
	t.Helper()
	out, e := book.Apply(b, o)
	if e != api.OK {
		t.Fatalf("%+v in %+v: %d", o, b, e)
	}
	return out
}
