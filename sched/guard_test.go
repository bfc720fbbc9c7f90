package sched_test

import (
	"runtime"
	"slices"
	"sync"
	"sync/atomic"
	"testing"
	"time"

	"spate/api"
)

// Ways: the lock guards the whole: while a task does its step, no other call ends.
func TestCallsAreGuarded(t *testing.T) {
	s := newSched(t, 1)
	begun, let := make(chan int), make(chan int)
	s.Add(does(func() api.Move {
		close(begun)
		<-let
		return wait(1)
	}))
	for range 4 {
		s.Add(does(goOn))
	}
	calls := map[string]func(){
		"Add":   func() { s.Add(plays(wait(2))) },
		"Pick":  func() { s.Pick(3) },
		"Wake":  func() { s.Wake(7) },
		"Ready": func() { s.Ready() },
		"State": func() { s.State(0) },
		"Tasks": func() { s.Tasks() },
		"Fault": func() { s.Fault(0) },
		"Round": func() { s.Round() },
	}
	ended := make(chan string, len(calls))
	var all sync.WaitGroup
	all.Go(func() { s.Pick(0) })
	<-begun
	for name, do := range calls {
		all.Go(func() {
			do()
			ended <- name
		})
	}
	time.Sleep(50 * time.Millisecond)
	early := len(ended)
	close(let)
	all.Wait()
	close(ended)
	for name := range ended {
		if early > 0 {
			t.Errorf("%s did not wait", name)
			early--
		}
	}
	if s.State(0) != api.TWaiting {
		t.Errorf("state %d", s.State(0))
	}
}

// Ways, P1206: of calls at once none is lost: no two steps are done at the same time, and there are as many as were told.
func TestCallsAtOnce(t *testing.T) {
	const crew, picks = 8, 2000
	s := newSched(t, 2)
	var inside, told atomic.Int64
	steps := 0 // guarded by the sched alone
	for n := range 20 {
		one := &turns{locks: []api.Lock{{N: n % 2, Shared: n%3 == 0}}, keeps: n % 4}
		s.Add(does(func() api.Move {
			if inside.Add(1) != 1 {
				t.Error("two steps at once")
			}
			steps++
			runtime.Gosched()
			inside.Add(-1)
			return one.Step()
		}))
	}
	added := make([][]int, crew)
	var all sync.WaitGroup
	for c := range crew {
		all.Go(func() {
			for i := range picks {
				if _, there := s.Pick(i * (c + 1)); there {
					told.Add(1)
				}
				if i%500 == c {
					told.Add(int64(s.Round()))
					added[c] = append(added[c], s.Add(plays(wait(1), goOn(), end())))
				}
				s.Wake(5)
				if ready := s.Ready(); !slices.IsSorted(ready) {
					t.Errorf("Ready: %v", ready)
				}
			}
		})
	}
	all.Wait()
	own := slices.Concat(added...)
	slices.Sort(own)
	for i, n := range own {
		if n != 20+i {
			t.Fatalf("the tasks that were added: %v", own)
		}
	}
	if s.Tasks() != 20+len(own) || len(own) != crew*picks/500 {
		t.Errorf("%d tasks, %d were added", s.Tasks(), len(own))
	}
	others := int(told.Load()) - steps // those of the tasks that were added, at most 3 each
	if steps < crew*picks/2 || others < 0 || others > 3*len(own) {
		t.Errorf("%d steps were done, %d told", steps, told.Load())
	}
	for n := range s.Tasks() {
		if s.Fault(n) != nil {
			t.Errorf("Fault(%d): %v", n, s.Fault(n))
		}
	}
}

// Ways: a step that takes its goroutine with it does not keep the lock.
func TestLockIsLetGo(t *testing.T) {
	s := newSched(t, 1)
	s.Add(does(func() api.Move {
		runtime.Goexit()
		return end()
	}))
	var all sync.WaitGroup
	all.Go(func() { s.Pick(0) })
	all.Wait()
	if s.Tasks() != 1 {
		t.Errorf("%d tasks", s.Tasks())
	}
}
