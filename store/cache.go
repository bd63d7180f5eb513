package store

import "slices"

// cache keeps blocks that were read: of each shard the ones that were used last, room at most.
type cache struct {
	shards []shard
	room   int
}

type shard struct {
	blocks map[int][]byte
	used   []int // the numbers of blocks, from the one that was used longest ago on
}

func newCache(shards, room int) cache {
	c := cache{shards: make([]shard, shards), room: room}
	for i := range c.shards {
		c.shards[i].blocks = map[int][]byte{}
	}
	return c
}

func (c *cache) shardOf(n int) *shard { return &c.shards[n%len(c.shards)] }

// get is a block, if it is cached: it is the one used last of its shard then.
func (c *cache) get(n int) ([]byte, bool) {
	b, ok := c.shardOf(n).blocks[n]
	if ok {
		c.put(n, b)
	}
	return b, ok
}

// put caches a block as the one used last of its shard, from which another one goes if it has no room.
func (c *cache) put(n int, b []byte) {
	c.drop(n)
	h := c.shardOf(n)
	h.blocks[n] = b
	h.used = append(h.used, n)
	if len(h.used) > c.room {
		c.drop(h.used[0])
	}
}

// drop lets a block be cached no more, if it is.
func (c *cache) drop(n int) {
	h := c.shardOf(n)
	if _, ok := h.blocks[n]; !ok {
		return
	}
	delete(h.blocks, n)
	place := slices.Index(h.used, n)
	h.used = slices.Delete(h.used, place, place+1)
}
