package merge

import (
	"slices"
)

// rising is what stands in the lists, strictly rising; of those that are alike the latest one.
// What files hold rises already, so this is mostly a few long runs to be joined; lists in any other order are many short ones.
func rising[E any](order func(a, b E) int, lists ...[]E) []E {
	var runs [][]E
	for _, list := range lists {
		runs = appendRuns(runs, order, list)
	}
	for len(runs) > 1 {
		runs = joinPairs(order, runs)
	}
	// A run that was joined with none is still the caller's memory.
	return slices.Concat(runs...)
}

// appendRuns lays behind the runs those of a list: the longest pieces that rise strictly.
func appendRuns[E any](runs [][]E, order func(a, b E) int, list []E) [][]E {
	begin := 0
	for i := 1; i < len(list); i++ {
		if order(list[i-1], list[i]) >= 0 {
			runs = append(runs, list[begin:i])
			begin = i
		}
	}
	if begin < len(list) {
		runs = append(runs, list[begin:])
	}
	return runs
}

// joinPairs joins each two runs that stand side by side: so none is gone through more often than their number can be halved.
func joinPairs[E any](order func(a, b E) int, runs [][]E) [][]E {
	var joined [][]E
	for pair := range slices.Chunk(runs, 2) {
		if len(pair) == 2 {
			joined = append(joined, join(order, pair[0], pair[1]))
		} else {
			joined = append(joined, pair[0])
		}
	}
	return joined
}

// join is two runs as one; of those that are alike the later run's.
func join[E any](order func(a, b E) int, elder, later []E) []E {
	all := make([]E, 0, len(elder)+len(later))
	for len(elder) > 0 && len(later) > 0 {
		o := order(elder[0], later[0])
		if o < 0 {
			all = append(all, elder[0])
		} else {
			all = append(all, later[0])
			later = later[1:]
		}
		if o <= 0 {
			elder = elder[1:]
		}
	}
	all = append(all, elder...)
	return append(all, later...)
}
