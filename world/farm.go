package world

import (
	"sync"

	"spate/api"
)

// job is a script with its place in the list, result what came of it, for the same place.
type job struct {
	place  int
	script Script
}

type result struct {
	place int
	told  Told
}

// farm has scripts played by a crew of goroutines.
type farm struct {
	crew    int
	hired   sync.Once
	all     sync.WaitGroup
	jobs    chan job
	results chan result
}

// Farm plays scripts by so many goroutines.
func Farm(crew int, l []Script) ([]Told, api.Errno) {
	if crew < 1 || crew > api.MaxCrew {
		return nil, api.ErrArg
	}
	f := &farm{crew: crew}
	defer f.dismiss()
	return f.play(l), api.OK
}

// play hands out scripts and hears results, whichever may be next. Each result has a place of its own: the turn in which they come is not to be seen.
func (f *farm) play(l []Script) []Told {
	told := make([]Told, len(l))
	handed, heard := 0, 0
	for heard < len(l) {
		f.hired.Do(f.hire)
		jobs, next := f.offer(l, handed)
		select {
		case jobs <- next:
			handed++
		case r := <-f.results:
			told[r.place] = r.told
			heard++
		}
	}
	return told
}

// hire makes the crew when the first script is there; for none nobody is needed.
func (f *farm) hire() {
	f.jobs, f.results = make(chan job), make(chan result)
	for range f.crew {
		f.all.Go(f.work)
	}
}

// offer is the next script and where it is to be handed out: nowhere, if none is left, as a nil channel takes nothing.
func (f *farm) offer(l []Script, handed int) (chan<- job, job) {
	if handed == len(l) {
		return nil, job{}
	}
	return f.jobs, job{handed, l[handed]}
}

// work is what each of the crew does till no script is left.
func (f *farm) work() {
	for next := range f.jobs {
		told, _ := Run(next.script)
		f.results <- result{next.place, told}
	}
}

// dismiss lets the crew go, if one was hired, and waits till all are gone.
func (f *farm) dismiss() {
	if f.jobs != nil {
		close(f.jobs)
	}
	f.all.Wait()
}
