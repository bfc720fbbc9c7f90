package codec

import (
	"slices"

	"spate/api"
)

// requestForms tells the forms by kind; their parts have what the request has of them.
func requestForms(q api.Request) []form {
	get := &oneCell{epochCells{q.Epoch, q.Cells}}
	multi := &someCells{epochCells{q.Epoch, q.Cells}}
	scan := &span{q.Epoch, q.From, q.To, q.Limit}
	epoch := &someEpoch{q.Epoch}
	none := nothing{}
	return []form{
		api.RGet:     {get, get.write, get.read},
		api.RMulti:   {multi, multi.write, multi.read},
		api.RScan:    {scan, scan.write, scan.read},
		api.RPin:     {none, none.write, none.read},
		api.RJoin:    {epoch, epoch.write, epoch.read},
		api.RRelease: {epoch, epoch.write, epoch.read},
		api.RStats:   {none, none.write, none.read},
	}
}

// requestWith tells the request that has that part, and nothing else.
func requestWith(kind, id int, has part) api.Request {
	q := api.Request{Kind: kind, Id: id}
	switch p := has.(type) {
	case *oneCell:
		q.Epoch, q.Cells = p.epoch, p.cells
	case *someCells:
		q.Epoch, q.Cells = p.epoch, p.cells
	case *span:
		q.Epoch, q.From, q.To, q.Limit = p.epoch, p.from, p.to, p.limit
	case *someEpoch:
		q.Epoch = p.epoch
	}
	return q
}

// CheckRequest tells whether a request may be written.
func CheckRequest(q api.Request) api.Errno {
	f, e := formOf(requestForms(q), q.Kind)
	if e != api.OK {
		return e
	}
	// What its kind does not use is zero just if nothing is lost without it.
	if !isNumber(q.Id) || !SameRequest(q, requestWith(q.Kind, q.Id, f.part)) {
		return api.ErrField
	}
	return f.part.check()
}

func EncodeRequest(q api.Request) ([]byte, api.Errno) {
	if e := CheckRequest(q); e != api.OK {
		return nil, e
	}
	return encode(q.Kind, q.Id, requestForms(q)), api.OK
}

// DecodeRequest reads one; its error is a *wire.Error, or nil.
func DecodeRequest(body []byte) (api.Request, error) {
	r := readerOf(body)
	q := requestWith(decode(r, requestForms(api.Request{})))
	r.Fail(CheckRequest(q), 0)
	if err := r.Err(); err != nil {
		return api.Request{}, err
	}
	return q, nil
}

// SameRequest tells whether two are the same.
func SameRequest(a, b api.Request) bool {
	return a.Kind == b.Kind && a.Id == b.Id && a.Epoch == b.Epoch &&
		slices.Equal(a.Cells, b.Cells) &&
		a.From == b.From && a.To == b.To && a.Limit == b.Limit
}
