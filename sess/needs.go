package sess

import (
	"slices"

	"spate/api"
)

// The locks by their numbers; that of shard s is firstShard + s.
const (
	gate       = 0
	book       = 1
	firstShard = 2
)

// What a request is about, each kind with what its locks hang on.
type (
	someCells struct{ shards []int }
	span      struct{ now bool }
	seal      struct{}
	holding   struct{}
	counts    struct{}
)

// Needs tells the locks that a request wants first; route tells the shards of its cells.
func (s *Sess) Needs(q api.Request, route []int) []api.Lock {
	return locksOf(aboutOf(q, route))
}

// aboutOf tells a request's kind by a value; nil, if there is no such kind.
func aboutOf(q api.Request, route []int) any {
	switch q.Kind {
	case api.RGet, api.RMulti:
		return someCells{shardsOf(len(q.Cells), route)}
	case api.RScan:
		return span{now: q.Epoch == 0}
	case api.RPin:
		return seal{}
	case api.RJoin, api.RRelease:
		return holding{}
	case api.RStats:
		return counts{}
	}
	return nil
}

func locksOf(about any) []api.Lock {
	switch a := about.(type) {
	case someCells:
		return shared(a.shards...)
	case span:
		if a.now {
			return alone(gate, book)
		}
		// A scan goes from shard to shard; this is the first one.
		return shared(0)
	case seal:
		return alone(gate, book)
	case holding:
		return alone(book)
	case counts:
		return alone(gate)
	}
	return nil
}

// shardsOf tells the shards of so many cells, each once, rising.
func shardsOf(cells int, route []int) []int {
	shards := make([]int, cells)
	for i := range min(cells, len(route)) {
		shards[i] = max(route[i], 0)
	}
	slices.Sort(shards)
	return slices.Compact(shards)
}

func shared(shards ...int) []api.Lock {
	var locks []api.Lock
	for _, s := range shards {
		locks = append(locks, api.Lock{N: firstShard + s, Shared: true})
	}
	return locks
}

func alone(numbers ...int) []api.Lock {
	var locks []api.Lock
	for _, n := range numbers {
		locks = append(locks, api.Lock{N: n})
	}
	return locks
}
