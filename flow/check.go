package flow

import "spate/api"

// check tells OK, if a source may give an item, else what of it is in the way.
func check(x api.Item) api.Errno {
	switch {
	case !x.Mark && !isFrom1(len(x.Key), api.MaxKey):
		return api.ErrKey
	case x.Time < -api.MaxTime || x.Time > api.MaxTime:
		return api.ErrTime
	case x.Mark && (x.Key != "" || x.Value != 0):
		return api.ErrField
	}
	return api.OK
}

func isFrom1(n, most int) bool {
	return n >= 1 && n <= most
}

// isOf asks whether a list has something of that number.
func isOf[T any](n int, list []T) bool {
	return n >= 0 && n < len(list)
}

// spread tells the highest 32 bits of W9's product: what a key's operator hangs on.
func spread(key string) uint64 {
	hash := uint64(14695981039346656037)
	for i := range len(key) {
		hash ^= uint64(key[i])
		hash *= 1099511628211
	}
	return hash * 11400714819323198485 >> 32
}
