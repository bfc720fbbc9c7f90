package serve

import (
	"spate/api"
	"spate/merge"
)

// request is what a session was asked last, and how far it is done.
type request struct {
	asked   api.Request
	no      int // how many were asked ahead
	isDoing bool
	answer  api.Response
	scan
}

// scan is how far one is read: the shard that is read, and the rows of each up to that.
type scan struct {
	at    int // its epoch
	shard int
	read  [api.MaxShard][]api.Row
}

// epochOf tells at which epoch a request reads; 0, if it reads now, or does not read.
func epochOf(q api.Request) int {
	switch q.Kind {
	case api.RGet, api.RMulti, api.RScan:
		return q.Epoch
	}
	return 0
}

// point tells the point of the request.
func (s *session) point(fate api.Errno) {
	s.tell(api.Line{Kind: api.HPoint, Who: s.number, No: s.no, Fate: int(fate)})
}

// reply makes the answer, and what of it is to be written.
func (s *session) reply(r api.Response) {
	r.Id = s.asked.Id
	s.answer = r
	// What is answered here an answer may be.
	s.left, _ = s.sess.Answer(r)
}

func (s *session) replyError(errno api.Errno) {
	s.reply(api.Response{Kind: api.SError, Err: errno})
}

// begin is row A.
func (s *session) begin() api.Move {
	epoch := epochOf(s.asked)
	if s.doing >= s.admit {
		s.replyError(api.ErrBusy)
		s.point(api.ErrBusy)
		return s.goOn(s.sayAnswer)
	}
	if epoch != 0 && !s.book.Holds(s.number, epoch) {
		s.replyError(api.ErrEpoch)
		s.point(api.OK)
		return s.goOn(s.sayAnswer)
	}
	s.doing++
	s.isDoing = true
	if epoch != 0 {
		// What it reads is settled since the seal.
		s.at = epoch
		s.point(api.OK)
	}
	return s.ask(s.first(), s.sess.Needs(s.asked, s.route())...)
}

// route tells the shards of the cells that the request names.
func (s *session) route() []int {
	var shards []int
	for _, c := range s.asked.Cells {
		shards = append(shards, s.store.Route(c.Key))
	}
	return shards
}

// first tells the row in which the request goes on, when it has what it needs.
func (s *session) first() func() api.Move {
	switch s.asked.Kind {
	case api.RGet, api.RMulti:
		return s.readCells
	case api.RScan:
		if s.asked.Epoch == 0 {
			return s.seal
		}
		return s.readSome
	}
	return s.settle
}

// readCells is row G.
func (s *session) readCells() api.Move {
	var found []api.Row
	for _, c := range s.asked.Cells {
		found = append(found, api.Row{Cell: c, Agg: s.store.At(c, s.asked.Epoch)})
	}
	s.reply(api.Response{Kind: api.SRows, Rows: found})
	if s.asked.Epoch == 0 {
		s.point(api.OK)
	}
	return s.letGo(s.sayAnswer)
}

// seal is row N.
func (s *session) seal() api.Move {
	// A session has one request at a time, and epochs do not run out.
	s.at, _ = s.book.Inner(s.number)
	s.point(api.OK)
	return s.letGo(s.approach)
}

// approach is row Y, readSome row C.
func (s *session) approach() api.Move {
	return s.ask(s.readSome, api.Lock{N: firstShard + s.shard, Shared: true})
}

func (s *session) readSome() api.Move {
	read := &s.read[s.shard]
	some := s.store.Range(s.shard, s.at, behind(*read, s.asked.From), s.asked.To, s.chunk)
	*read = append(*read, some...)
	if len(some) == s.chunk && len(*read) < s.asked.Limit {
		return s.letGo(s.approach)
	}
	s.shard++
	if s.shard < s.shards {
		return s.letGo(s.approach)
	}
	return s.letGo(s.answerScan)
}

// behind tells the cell from which on is to be read, when these rows were.
func behind(read []api.Row, from api.Cell) api.Cell {
	if len(read) == 0 {
		return from
	}
	next := read[len(read)-1].Cell
	next.Start++
	return next
}

// answerScan is row M.
func (s *session) answerScan() api.Move {
	s.reply(api.Response{Kind: api.SRows, Rows: merge.Rows(s.asked.Limit, s.read[:]...)})
	if s.asked.Epoch == 0 {
		return s.ask(s.unseal, api.Lock{N: book})
	}
	return s.goOn(s.sayAnswer)
}

// unseal is row Z.
func (s *session) unseal() api.Move {
	s.book.Done(s.number)
	s.owe()
	return s.letGo(s.sayAnswer)
}

// settle is row B.
func (s *session) settle() api.Move {
	s.reply(s.settled())
	s.point(api.OK)
	return s.letGo(s.sayAnswer)
}

// settled does what a request asks that reads no cells.
func (s *session) settled() api.Response {
	var errno api.Errno
	done := api.Response{Kind: api.SDone}
	switch s.asked.Kind {
	case api.RPin:
		done.Kind = api.SEpoch
		done.Epoch, errno = s.book.Seal(s.number)
	case api.RJoin:
		errno = s.book.Join(s.number, s.asked.Epoch)
	case api.RRelease:
		errno = s.book.Release(s.number, s.asked.Epoch)
		if errno == api.OK {
			s.owe()
		}
	case api.RStats:
		done = api.Response{Kind: api.SStats, Stats: s.stats()}
	}
	if errno != api.OK {
		return api.Response{Kind: api.SError, Err: errno}
	}
	return done
}

func (s *session) stats() api.Stats {
	return api.Stats{
		Taken:    s.fates[api.FTaken],
		Late:     s.fates[api.FLate],
		Overflow: s.fates[api.FOverflow],
		Full:     s.fates[api.FFull],
		Cells:    s.store.Cells(),
		Now:      s.book.Now(),
	}
}
