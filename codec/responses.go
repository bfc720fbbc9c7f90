package codec

import (
	"slices"

	"spate/api"
)

// responseForms tells the forms by kind; their parts have what the response has of them.
func responseForms(r api.Response) []form {
	rows := &someRows{r.Rows}
	epoch := &someEpoch{r.Epoch}
	none := nothing{}
	stats := &counts{r.Stats}
	fault := &refusal{r.Err}
	return []form{
		api.SRows:  {rows, rows.write, rows.read},
		api.SEpoch: {epoch, epoch.write, epoch.read},
		api.SDone:  {none, none.write, none.read},
		api.SStats: {stats, stats.write, stats.read},
		api.SError: {fault, fault.write, fault.read},
	}
}

// responseWith tells the response that has that part, and nothing else.
func responseWith(kind, id int, has part) api.Response {
	r := api.Response{Kind: kind, Id: id}
	switch p := has.(type) {
	case *someRows:
		r.Rows = p.rows
	case *someEpoch:
		r.Epoch = p.epoch
	case *counts:
		r.Stats = p.stats
	case *refusal:
		r.Err = p.err
	}
	return r
}

// CheckResponse tells whether a response may be written.
func CheckResponse(r api.Response) api.Errno {
	f, e := formOf(responseForms(r), r.Kind)
	if e != api.OK {
		return e
	}
	// What its kind does not use is zero just if nothing is lost without it.
	if !isNumber(r.Id) || !SameResponse(r, responseWith(r.Kind, r.Id, f.part)) {
		return api.ErrField
	}
	return f.part.check()
}

func EncodeResponse(r api.Response) ([]byte, api.Errno) {
	if e := CheckResponse(r); e != api.OK {
		return nil, e
	}
	return encode(r.Kind, r.Id, responseForms(r)), api.OK
}

// DecodeResponse reads one; its error is a *wire.Error, or nil.
func DecodeResponse(body []byte) (api.Response, error) {
	from := readerOf(body)
	r := responseWith(decode(from, responseForms(api.Response{})))
	from.Fail(CheckResponse(r), 0)
	if err := from.Err(); err != nil {
		return api.Response{}, err
	}
	return r, nil
}

// SameResponse tells whether two are the same.
func SameResponse(a, b api.Response) bool {
	return a.Kind == b.Kind && a.Id == b.Id && a.Err == b.Err && a.Epoch == b.Epoch &&
		slices.Equal(a.Rows, b.Rows) && a.Stats == b.Stats
}
