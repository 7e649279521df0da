package aborts_test

import (
	"bytes"
	"math/rand/v2"
	"slices"
	"testing"

	"bordereau/aborts"
	"bordereau/api"
)

// model is a list of aborted transactions by the words of the chapter: each question looks at all of them.
type model []api.Dropped

// takes reports whether d may be appended.
func (m model) takes(d api.Dropped) bool {
	if d.Producer < 0 || d.First < 0 || d.Last > api.MaxOffset || d.Last <= d.First {
		return false
	}
	return !slices.ContainsFunc(m, func(e api.Dropped) bool { return e.Last >= d.Last })
}

// play does one thing to both lists, and fails the test if they do not answer the same.
func play(t *testing.T, r *rand.Rand, x *aborts.Row, m model) (*aborts.Row, model) {
	t.Helper()
	n := r.Int64N(60) - 3
	switch r.IntN(12) {
	case 0:
		x.Cut(n)
		m = those(m, func(d api.Dropped) bool { return d.Last < n })
	case 1:
		x.Start(n / 3)
		m = those(m, func(d api.Dropped) bool { return d.Last >= n/3 })
	case 2:
		to := n + r.Int64N(12) - 2
		withins(t, x, n, to, those(m, func(d api.Dropped) bool { return has(d, n, to) })...)
	case 3:
		b := x.Bytes()
		if want := nums(written(m)...); !bytes.Equal(b, want) {
			t.Errorf("P13.1: Bytes of %v: %v, want %v", m, b, want)
		}
		x = reads(t, b, m...)
	default:
		d := api.Dropped{Producer: r.Int64N(5) - 1, First: n, Last: n + r.Int64N(20) - 2}
		want := m.takes(d)
		if got := x.Add(d); got != want {
			t.Errorf("P13.1: Add(%v) behind %v: %v, want %v", d, m, got, want)
		}
		if want {
			m = append(m, d)
		}
	}
	allAre(t, x, m...)
	return x, m
}

func TestHistories(t *testing.T) {
	for seed := range uint64(300) {
		r := rand.New(rand.NewPCG(seed, 13))
		x, m := aborts.New(), model(nil)
		for range 60 {
			x, m = play(t, r, x, m)
		}
	}
}

// A list that does the same twice answers the same twice (R4).
func TestHistoriesTwice(t *testing.T) {
	for seed := range uint64(20) {
		var told [2][]byte
		for i := range told {
			r := rand.New(rand.NewPCG(seed, 4))
			l := history(r)
			x := aborts.Of(l)
			x.Start(r.Int64N(20))
			x.Add(api.Dropped{Producer: 1, First: 3, Last: 900})
			told[i] = x.Bytes()
		}
		if !bytes.Equal(told[0], told[1]) {
			t.Errorf("R4: the same calls, and the bytes %v and %v", told[0], told[1])
		}
	}
}
