package table

import (
	"math"
	"slices"
	"testing"

	"bordereau/api"
	"bordereau/producer"
)

// held are valid states of several producers; batches lead to the first, the third and the fourth alone.
func held() []api.Producer {
	return []api.Producer{
		state(0, 2, -1), state(1, 0, 7), state(4, 3, 20, [3]int64{5, 6, 20}, [3]int64{7, 7, 22}),
		state(9, 1, -1, [3]int64{api.MaxSeq, 0, 3}), state(1<<40, api.MaxEpoch, api.MaxOffset), state(math.MaxInt64, 0, 0),
	}
}

func TestOf(t *testing.T) {
	for _, l := range [][]api.Producer{nil, {}} {
		allAre(t, Of(l))
		openIs(t, Of(l), -1)
		unknown(t, Of(l), 0)
	}
	for _, p := range held() {
		x := Of([]api.Producer{p})
		allAre(t, x, p)
		getIs(t, x, p)
		openIs(t, x, p.Open)
		unknown(t, x, 5)
	}
	for _, l := range orders(held()) {
		x := Of(l)
		allAre(t, x, held()...)
		allAre(t, x.Copy(), held()...)
		openIs(t, x, 0)
	}
}

func TestOfSeveralWithOneID(t *testing.T) {
	one, two := state(4, 3, 7), state(4, 1, -1, [3]int64{5, 6, 20})
	allAre(t, Of([]api.Producer{one, state(5, 0, -1), two}), two, state(5, 0, -1))
	allAre(t, Of([]api.Producer{two, two, one}), one)
}

// An open transaction of a producer without latest batches is one, and its marker ends it.
func TestOpenTransactionsWithoutLatestBatches(t *testing.T) {
	for _, open := range []int64{0, 1, 7, api.MaxOffset} {
		x := Of([]api.Producer{state(4, 3, open), state(9, 1, -1)})
		openIs(t, x, open)
		checks(t, x, data(50, 4, 3, 12, false, 1), -1, api.ErrTxn)
		checks(t, x, data(50, 4, 3, 12, true, 1), -1, api.OK)
		checks(t, x, data(50, 4, 4, 0, true, 1), -1, api.ErrTxn)
		checks(t, x, data(50, 4, 2, 0, true, 1), -1, api.ErrFenced)
		checks(t, x, marker(50, 4, 3, api.Commit), -1, api.OK)
		checks(t, x, marker(50, 9, 1, api.Commit), -1, api.ErrTxn)
		y := x.Copy()
		applied(t, y, data(50, 4, 3, 12, true, 1), nothing)
		getIs(t, y, state(4, 3, open, [3]int64{12, 12, 50}))
		for _, z := range []*Table{x, y} {
			applied(t, z, marker(51, 4, 3, api.Abort), api.Dropped{Producer: 4, First: open, Last: 51})
			openIs(t, z, -1)
		}
		getIs(t, x, state(4, 3, -1))
	}
}

// Whatever batches follow, a table goes on as one of the same states does that batches led to.
func TestOfGoesOn(t *testing.T) {
	for _, x := range append(tables(), Fold(full())) {
		for _, id := range []int64{0, 4, 6, 9, 77} {
			for _, epoch := range []int{0, 1, 3, 4} {
				for _, b := range []api.Batch{data(900, id, epoch, 0, true, 1), data(900, id, epoch, 7, false, 2), marker(900, id, epoch, api.Commit), marker(900, id, epoch, api.Abort), free(900, 1)} {
					y, z := x.Copy(), Of(x.All())
					want, why := y.Check(b)
					checks(t, z, b, want, why)
					d, ok := y.Apply(b)
					if !ok {
						d = nothing
					}
					applied(t, z, b, d)
					allAre(t, z, y.All()...)
					least, _ := y.Open()
					openIs(t, z, least)
				}
			}
		}
	}
}

func TestOfKeepsNoStates(t *testing.T) {
	l := held()
	for i := range l {
		l[i].Last = append(slices.Clone(l[i].Last), [3]int64{-1, -2, -3})[:len(l[i].Last)]
	}
	list := append(l, state(77, 7, 7))[:len(l)]
	x, y := Of(list), Of(list)
	x.Apply(data(900, 4, 3, 8, true, 1))
	for i, p := range list {
		if !producer.Same(p, held()[i]) || p.Last[:len(p.Last)+1][len(p.Last)] != [3]int64{-1, -2, -3} {
			t.Errorf("R2: a state was changed: %v, want %v", p, held()[i])
		}
	}
	if behind := list[:len(list)+1][len(list)]; !producer.Same(behind, state(77, 7, 7)) {
		t.Errorf("R5: what follows the states was changed: %v", behind)
	}
	unknown(t, y, 77)
	for _, p := range list {
		junk(p)
	}
	fill(list, api.Producer{})
	allAre(t, y, held()...)
	getIs(t, x, state(4, 3, 20, [3]int64{5, 6, 20}, [3]int64{7, 7, 22}, [3]int64{8, 8, 900}))
}

// It asks nothing of a state, and no call panics with one that is not valid.
func TestOfStatesThatAreNotValid(t *testing.T) {
	numbers := []int64{math.MinInt64, -2, -1, 0, 1, api.MaxOffset, api.MaxOffset + 1, math.MaxInt64}
	for _, n := range numbers {
		for _, m := range numbers {
			p := state(n, int(m), m, [3]int64{m, n, m}, [3]int64{n, n, n})
			x := Of([]api.Producer{p})
			allAre(t, x, p)
			x.Open()
			for _, id := range []int64{-1, 0, 1, n} {
				b := data(5, id, 1, 0, true, 1)
				x.Copy().Check(b)
				x.Copy().Apply(b)
				x.Copy().Apply(marker(5, id, 1, api.Abort))
			}
		}
	}
}
