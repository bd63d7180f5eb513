package bits

import "hayrick/api"

const maxOrder = 10

// buddies are the chunks that are a buddy's, by their orders.
type buddies struct {
	counts [maxOrder + 1]int
	firsts [maxOrder + 1]int // where the first one of them begins; 0, if there is none
}

func buddiesOf(b []byte) buddies {
	var all buddies
	row := 0 // where the row of free bits begins that ends ahead of i
	for i := range api.MaxBits {
		if isSet(b, i) {
			all.cut(row, i)
			row = i + 1
		}
	}
	all.cut(row, api.MaxBits)
	return all
}

// cut takes up a row of free bits: it is cut, from its front on, into the greatest chunks that go into what is left of it. Each is a buddy's, for a free one around it would have been cut at its own first bit.
func (all *buddies) cut(first, end int) {
	for first < end {
		order := orderAt(first, end)
		if all.counts[order] == 0 {
			all.firsts[order] = first
		}
		all.counts[order]++
		first += 1 << order
	}
}

// orderAt is the greatest order of which a chunk begins at first, and doesn't reach behind end.
func orderAt(first, end int) int {
	order := 0
	for order < maxOrder && first%(2<<order) == 0 && 2<<order <= end-first {
		order++
	}
	return order
}

// orderOf is the least order whose chunks have want bits or more; maxOrder, if there is none.
func orderOf(want int) int {
	for order := range maxOrder {
		if 1<<order >= want {
			return order
		}
	}
	return maxOrder
}

// choose is the least order from least on that has a chunk; if none has, the greatest one below it; -1, if there is no chunk at all.
func choose(counts [maxOrder + 1]int, least int) int {
	for order := least; order <= maxOrder; order++ {
		if counts[order] > 0 {
			return order
		}
	}
	order := least - 1
	for order >= 0 && counts[order] == 0 {
		order--
	}
	return order
}
