package log

import (
	"math"
	"slices"

	"hayrick/api"
	"hayrick/wire"
)

const (
	mostSeq     = math.MaxInt32
	mostWritten = 48 // entries of a descriptor: more don't go into a block
	mostRevoked = 60 // entries of a revoke, likewise
	markSize    = 4
	headSize    = 11
)

// mayBe: is it a record as those of its kind are?
func mayBe(r Record) bool {
	if !within(1, mostSeq, r.Seq) || !mayHave(r.Kind, len(r.Entries)) || !mayName(r.Entries) {
		return false
	}
	switch r.Kind {
	case Descriptor:
		return r.Sum == 0 && r.Start == 0
	case Revoke:
		return r.Sum == 0 && r.Start == 0 && !slices.ContainsFunc(r.Entries, isEscaped)
	case Commit:
		return r.Start == 0
	case Head:
		return r.Sum == 0 && within(0, api.MaxJournal-1, r.Start)
	}
	return false
}

// mayHave: has a record of a kind that there is so many entries?
func mayHave(kind, entries int) bool {
	switch kind {
	case Descriptor:
		return within(1, mostWritten, entries)
	case Revoke:
		return within(1, mostRevoked, entries)
	case Commit, Head:
		return entries == 0
	}
	return false
}

func mayName(l []Entry) bool {
	return !slices.ContainsFunc(l, func(x Entry) bool { return !isBlock(x.Block) })
}

func isEscaped(x Entry) bool { return x.Escaped }

// isBlock: may a disk have a block of that number?
func isBlock(n int) bool { return within(0, api.MaxBlocks-1, n) }

func within(least, most, x int) bool { return least <= x && x <= most }

// headWidths are those of the mark, the kind, the number of the transaction and how many entries there are.
func headWidths() []int { return []int{markSize, 1, 4, 2} }

// bodyWidths are those of what stands behind the head of a record that has so many entries.
func bodyWidths(kind, entries int) []int {
	switch kind {
	case Descriptor:
		return slices.Repeat([]int{4, 1}, entries)
	case Revoke:
		return slices.Repeat([]int{4}, entries)
	}
	return []int{4}
}

// body is what stands behind the head of a record that may be.
func body(r Record) []uint64 {
	var l []uint64
	switch r.Kind {
	case Descriptor:
		for _, x := range r.Entries {
			l = append(l, uint64(x.Block), oneIf(x.Escaped))
		}
	case Revoke:
		for _, x := range r.Entries {
			l = append(l, uint64(x.Block))
		}
	case Commit:
		l = append(l, uint64(r.Sum))
	case Head:
		l = append(l, uint64(r.Start))
	}
	return l
}

// read is the record that a block tells, be it whole or not; nothing and false, if it can't tell any.
func read(b []byte) (Record, bool) {
	if len(b) != api.BlockSize {
		return Record{}, false
	}
	head, e := wire.Unpack(b[:headSize], headWidths())
	if e != api.OK {
		return Record{}, false
	}
	kind, seq, n := int(head[1]), int(head[2]), int(head[3])
	if !mayHave(kind, n) {
		return Record{}, false
	}
	widths := bodyWidths(kind, n)
	l, e := wire.Unpack(b[headSize:headSize+total(widths)], widths)
	if e != api.OK {
		return Record{}, false
	}
	return told(kind, seq, l), true
}

// told is the record behind whose head some numbers stand.
func told(kind, seq int, l []uint64) Record {
	r := Record{Kind: kind, Seq: seq}
	switch kind {
	case Descriptor:
		for x := range slices.Chunk(l, 2) {
			r.Entries = append(r.Entries, Entry{Block: int(x[0]), Escaped: x[1] == 1})
		}
	case Revoke:
		for _, x := range l {
			r.Entries = append(r.Entries, Entry{Block: int(x)})
		}
	case Commit:
		r.Sum = uint32(l[0])
	case Head:
		r.Start = int(l[0])
	}
	return r
}

func total(widths []int) int {
	sum := 0
	for _, n := range widths {
		sum += n
	}
	return sum
}

func oneIf(yes bool) uint64 {
	if yes {
		return 1
	}
	return 0
}
