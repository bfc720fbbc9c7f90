package store

import (
	"sync"

	"spate/api"
	"spate/shard"
)

// lane is a shard with the places of those rows of a load that are its own. As shards do not see one another, lanes may be gone through at once; the rows of one lane may not.
type lane struct {
	*shard.Shard
	places []int
}

// put tells what came of each row, in the order in which they stand.
func (l lane) put(epoch int, rows []api.Row) []api.Errno {
	var told []api.Errno
	for _, place := range l.places {
		told = append(told, l.Put(epoch, rows[place]))
	}
	return told
}

// load is what the goroutines of one Load share; they touch it by its methods alone.
type load struct {
	sync.Mutex
	lanes []lane // those that nobody has taken yet
	told  []api.Errno
}

// take answers a lane that nobody else gets; false, if none is left.
func (l *load) take() (lane, bool) {
	l.Lock()
	defer l.Unlock()
	if len(l.lanes) == 0 {
		return lane{}, false
	}
	first := l.lanes[0]
	l.lanes = l.lanes[1:]
	return first, true
}

func (l *load) tell(places []int, told []api.Errno) {
	l.Lock()
	defer l.Unlock()
	for i, place := range places {
		l.told[place] = told[i]
	}
}

// work is one goroutine's share.
func (l *load) work(epoch int, rows []api.Row) {
	for {
		mine, left := l.take()
		if !left {
			return
		}
		l.tell(mine.places, mine.put(epoch, rows))
	}
}

// Load writes rows at an epoch, by so many goroutines: the error of each.
func (s *Store) Load(crew, epoch int, rows []api.Row) ([]api.Errno, api.Errno) {
	if crew < 1 || crew > api.MaxCrew {
		return nil, api.ErrArg
	}
	shared := &load{lanes: s.lanes(rows), told: make([]api.Errno, len(rows))}
	var all sync.WaitGroup
	for range crew {
		all.Go(func() { shared.work(epoch, rows) })
	}
	all.Wait()
	return shared.told, api.OK
}

func (s *Store) lanes(rows []api.Row) []lane {
	lanes := make([]lane, len(s.shards))
	for n, one := range s.shards {
		lanes[n].Shard = one
	}
	for place, r := range rows {
		n := s.Route(r.Key)
		lanes[n].places = append(lanes[n].places, place)
	}
	return lanes
}
