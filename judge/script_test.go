package judge_test

import (
	"math/rand/v2"
	"testing"

	"spate/api"
	"spate/world"
)

// anyScript is one by which a few clients ask, so many requests at most, while items come in.
func anyScript(t *testing.T, r *rand.Rand, c api.Config, events, requests int) world.Script {
	t.Helper()
	a := &author{r: r, c: c, m: newModel(t, c)}
	s := world.Script{Config: c}
	for who := range 4 {
		s.Events = append(s.Events, api.Event{Kind: api.EOpen, A: who + 1})
	}
	for range events {
		e := api.Event{Kind: api.EPick, N: r.IntN(99)}
		switch n := r.IntN(100); {
		case n < 12:
			e = a.item()
		case n < 20 && requests > 0:
			requests--
			a.id++
			q := a.request()
			if q.Epoch > 0 {
				q.Epoch = 1 + r.IntN(4)
			}
			e = api.Event{Kind: api.ESend, A: 1 + r.IntN(4), Data: framed(t, q)}
		case n < 30:
			e = api.Event{Kind: api.EBring, A: 1 + r.IntN(4), N: 1 << 9}
		case n < 35:
			e = api.Event{Kind: api.EFetch, A: 1 + r.IntN(4), N: r.IntN(200)}
		case n == 35 && r.IntN(6) == 0:
			e = api.Event{Kind: api.ECut, A: 1 + r.IntN(4)}
		case n == 36 && r.IntN(10) == 0:
			e = api.Event{Kind: api.EStop}
		case n == 37 && r.IntN(6) == 0:
			e = api.Event{Kind: api.ESend, A: 1 + r.IntN(4), Data: make([]byte, 4)}
		}
		s.Events = append(s.Events, e)
	}
	return s
}

func (a *author) item() api.Event {
	source := a.r.IntN(a.c.Sources)
	if a.r.IntN(4) == 0 {
		a.time += a.r.Int64N(6)
		return api.Event{Kind: api.EMark, A: source, Time: a.time - a.r.Int64N(8)}
	}
	return api.Event{Kind: api.EFeed, A: source, Key: a.key(), Time: a.time + a.r.Int64N(24) - 14, Value: a.value()}
}
