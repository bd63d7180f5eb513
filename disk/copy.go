package disk

import (
	"bytes"

	"hayrick/api"
)

// copyMap is a map of the same keys, each with what twin makes of its value: it shares as little with m as twin's answers do.
func copyMap[K comparable, V any](m map[K]V, twin func(V) V) map[K]V {
	c := make(map[K]V, len(m))
	for k, v := range m {
		c[k] = twin(v)
	}
	return c
}

// copyList is copyMap of a list.
func copyList[T any](l []T, twin func(T) T) []T {
	c := make([]T, len(l))
	for i, x := range l {
		c[i] = twin(x)
	}
	return c
}

func copyWrite(w api.Write) api.Write {
	return api.Write{Block: w.Block, Data: bytes.Clone(w.Data)}
}
