package shard

import "spate/api"

// room is counted as cells are written, so that nobody needs to go through them all to know whether more fits.
type room struct {
	slots    int
	versions int // of all cells
	there    int // cells that are there now
	most     int // versions of one cell
}

// fits tells whether there is room for so many units more.
func (r *room) fits(more int) bool {
	return r.units()+more <= r.slots
}

func (r *room) units() int {
	return r.versions + r.there
}

// count takes in by how much a write changed what there is, and how many versions its cell has then.
func (r *room) count(versions, there, ofCell int) {
	r.versions += versions
	r.there += there
	r.most = max(r.most, ofCell)
}

// Need tells how many units writes to these cells at an epoch would take more; Fits whether there are so many.
func (s *Shard) Need(epoch int, cells []api.Cell) int {
	need := 0
	seen := map[api.Cell]struct{}{}
	for _, c := range cells {
		if _, twice := seen[c]; twice || mayBe(c) != api.OK {
			continue
		}
		seen[c] = struct{}{}
		need += s.find(c).need(epoch)
	}
	return need
}

func (s *Shard) Fits(epoch int, cells []api.Cell) bool {
	return s.fits(s.Need(epoch, cells))
}

// Units tells how many are taken; Cells how many cells are there now; Most how many versions a cell has at most.
func (s *Shard) Units() int {
	return s.units()
}

func (s *Shard) Cells() int {
	return s.there
}

func (s *Shard) Most() int {
	return s.most
}
