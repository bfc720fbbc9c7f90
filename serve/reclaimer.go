package serve

import "spate/api"

// reclaimer sweeps the shards, one behind the other.
type reclaimer struct {
	rows
	shard int
}

func newReclaimer(c *core) *reclaimer {
	r := &reclaimer{rows: rows{core: c}}
	r.row = r.begin
	return r
}

// begin is row D. What is owed from now on the next sweep sees to.
func (r *reclaimer) begin() api.Move {
	if !r.debt {
		return r.wait(reclaimerAt)
	}
	r.debt = false
	r.book.Begin()
	r.shard = 0
	return r.goOn(r.approach)
}

// approach is row P, prune row Q.
func (r *reclaimer) approach() api.Move {
	return r.ask(r.prune, api.Lock{N: book}, api.Lock{N: firstShard + r.shard})
}

func (r *reclaimer) prune() api.Move {
	r.store.Prune(r.shard, r.book.Held())
	r.shard++
	if r.shard < r.shards {
		return r.letGo(r.approach)
	}
	return r.letGo(r.end)
}

// end is row E.
func (r *reclaimer) end() api.Move {
	r.book.End()
	return r.goOn(r.begin)
}
