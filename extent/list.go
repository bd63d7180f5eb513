package extent

import "hayrick/api"

// end is the file's block behind an extent.
func end(x api.Extent) int { return x.Logical + x.Length }

func mayBe(l []api.Extent) bool {
	behind := 0
	for i, x := range l {
		// Length comes first: with it in bounds nothing that is added or taken away comes round.
		if x.Length < 1 || x.Length > api.MaxRow ||
			x.Logical < behind || x.Logical > api.MaxRow-x.Length ||
			x.Physical < 1 || x.Physical > api.MaxBlocks-x.Length ||
			i > 0 && continues(l[i-1], x) {
			return false
		}
		behind = end(x)
	}
	return true
}

// continues: is an extent continued by the next one?
func continues(x, next api.Extent) bool {
	return next.Logical == end(x) && next.Physical == x.Physical+x.Length
}

// joined is a list in which each extent that is continued by the next one is one with it.
func joined(l []api.Extent) []api.Extent {
	var out []api.Extent
	for _, x := range l {
		if last := len(out) - 1; last >= 0 && continues(out[last], x) {
			out[last].Length += x.Length
			continue
		}
		out = append(out, x)
	}
	return out
}

// halves are what an extent has ahead of a block of the file, and what from it on: of no length, where it has nothing.
func halves(x api.Extent, at int) (api.Extent, api.Extent) {
	n := min(max(at-x.Logical, 0), x.Length)
	return api.Extent{Logical: x.Logical, Length: n, Physical: x.Physical},
		api.Extent{Logical: x.Logical + n, Length: x.Length - n, Physical: x.Physical + n}
}

// some are those of a few extents that have blocks.
func some(pieces ...api.Extent) []api.Extent {
	var l []api.Extent
	for _, x := range pieces {
		if x.Length > 0 {
			l = append(l, x)
		}
	}
	return l
}
