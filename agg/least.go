package agg

// Least, Most tell the least, the greatest number of a list; false: it is empty.
func Least[T int | int64 | float64](l ...T) (T, bool) {
	return foremost(l, func(a, b T) bool { return a < b })
}

func Most[T int | int64 | float64](l ...T) (T, bool) {
	return foremost(l, func(a, b T) bool { return a > b })
}

// foremost tells the one that no other is ahead of.
func foremost[T any](l []T, ahead func(a, b T) bool) (T, bool) {
	var best T
	for i, x := range l {
		if i == 0 || ahead(x, best) {
			best = x
		}
	}
	return best, len(l) > 0
}
