package world_test

import (
	"math"
	"math/rand/v2"
	"runtime"
	"slices"
	"sync"
	"testing"
	"time"

	"spate/api"
	"spate/world"
)

func farm(t *testing.T, crew int, l []world.Script) []world.Told {
	t.Helper()
	told, errno := world.Farm(crew, l)
	if errno != api.OK {
		t.Fatalf("Farm of %d: %v", crew, errno)
	}
	return told
}

// wantRuns asks for each script for what Run tells of it: zeros, where that is an error.
func wantRuns(t *testing.T, told []world.Told, l []world.Script) {
	t.Helper()
	if len(told) != len(l) {
		t.Fatalf("%d were told of %d", len(told), len(l))
	}
	for i, s := range l {
		want, _ := world.Run(s)
		wantTold(t, told[i], want)
	}
}

// someScripts are so many, long ones and short ones, some of which Run refuses.
func someScripts(t *testing.T, seed uint64, n int) []world.Script {
	t.Helper()
	r := rand.New(rand.NewPCG(seed, 5))
	var l []world.Script
	for range n {
		s := anyScript(t, r, r.IntN(300))
		if r.IntN(6) == 0 {
			s.Config.Slots = 1
		}
		l = append(l, s)
	}
	return l
}

// P2004, P2005, T11: whatever the crew is, it tells what the scripts give one behind the other.
func TestFarm(t *testing.T) {
	for _, n := range []int{0, 1, 2, 7, 8, 9, 40} {
		l := someScripts(t, uint64(n), n)
		for crew := 1; crew <= api.MaxCrew; crew++ {
			wantRuns(t, farm(t, crew, l), l)
		}
	}
}

// P2004: the crew is 1 to 8; no script is needed.
func TestFarmCrew(t *testing.T) {
	for _, l := range [][]world.Script{nil, {script()}, someScripts(t, 1, 9)} {
		for _, crew := range []int{0, -1, 9, math.MinInt, math.MaxInt} {
			if told, errno := world.Farm(crew, l); errno != api.ErrArg || len(told) != 0 {
				t.Errorf("Farm(%d): %v, %v", crew, told, errno)
			}
		}
		wantRuns(t, farm(t, 1, l), l)
		wantRuns(t, farm(t, 8, l), l)
	}
}

// P2004: a script that Run refuses is told as zeros, in its place.
func TestFarmOfWrongScripts(t *testing.T) {
	right := script(open(1), pick(0))
	l := []world.Script{right}
	for _, x := range wrongConfigs() {
		l = append(l, world.Script{Config: x.c, Events: right.Events}, right)
	}
	told := farm(t, 3, l)
	wantRuns(t, told, l)
	for i, w := range told {
		if i%2 == 1 {
			wantTold(t, w, world.Told{})
		} else {
			wantErrs(t, w, api.OK, api.OK)
		}
	}
}

// P2004: many short scripts, so that all are in each other's way, and few long ones.
func TestFarmMuch(t *testing.T) {
	var l []world.Script
	for i := range 2000 {
		l = append(l, script(feed(0, "k", int64(i), 5), pick(i), pick(i/2)))
	}
	for i := range 5 {
		l[400*i] = anyScript(t, rand.New(rand.NewPCG(uint64(i), 6)), 2000)
	}
	for _, crew := range []int{2, 8} {
		wantRuns(t, farm(t, crew, l), l)
	}
}

// P2005, P3, P7: farms and runs at once do not see one another, also of the same scripts.
func TestFarmsAtOnce(t *testing.T) {
	l := someScripts(t, 7, 12)
	want := farm(t, 1, l)
	var all sync.WaitGroup
	for crew := 1; crew <= api.MaxCrew; crew++ {
		all.Go(func() {
			told, errno := world.Farm(crew, l)
			if errno != api.OK || !slices.EqualFunc(told, want, func(a, b world.Told) bool { return print(a) == print(b) }) {
				t.Errorf("Farm(%d): %v", crew, errno)
			}
		})
	}
	all.Wait()
}

// P2004: a farm leaves nobody behind, whether it had scripts or not.
func TestFarmLeavesNobody(t *testing.T) {
	before := runtime.NumGoroutine()
	for n := range 30 {
		farm(t, 8, someScripts(t, 8, n%4))
	}
	for range 100 {
		if runtime.NumGoroutine() <= before {
			return
		}
		time.Sleep(10 * time.Millisecond) // whoever is done may still be on its way out
	}
	t.Errorf("%d goroutines; before there were %d", runtime.NumGoroutine(), before)
}
