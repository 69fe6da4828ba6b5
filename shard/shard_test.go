package shard_test

import (
	"math"
	"slices"
	"testing"

	"claviger/api"
	"claviger/blend"
	"claviger/shard"
)

// P13.1.
func TestOf(t *testing.T) {
	seen := map[int]int{}
	for i := range 5000 {
		id := api.ID{byte(i), byte(i >> 8), byte(i * 7), byte(i * 31)}
		d := blend.Sum(id[:])
		if shard.Of(id) != int(d[0])%16 {
			t.Errorf("Of(%v): %d", id, shard.Of(id))
		}
		seen[shard.Of(id)]++
	}
	if len(seen) != api.Shards {
		t.Errorf("%d shards were met", len(seen))
	}
}

func TestRight(t *testing.T) {
	for n := -40; n < 60; n++ {
		if shard.Right(n) != (n >= 0 && n <= 15) {
			t.Errorf("Right(%d)", n)
		}
	}
	if shard.Right(math.MaxInt) || shard.Right(math.MinInt) {
		t.Error("Right of a far one")
	}
}

func TestFirstAndHome(t *testing.T) {
	if shard.First(5, 2) != 1 {
		t.Error("First(5, 2)")
	}
	for _, c := range [][2]int{{math.MinInt, 1}, {-1, 1}, {0, 1}, {1, 1}, {2, 2}, {3, 3}, {4, 4}, {5, 5}, {6, 6}, {7, 7}, {8, 8}, {9, 8}, {100, 8}, {math.MaxInt, 8}} {
		home := shard.Home(c[0])
		if len(home) != api.Shards {
			t.Fatalf("Home(%d): %v", c[0], home)
		}
		for s := range api.Shards {
			if shard.First(s, c[0]) != s%c[1] || home[s] != s%c[1] {
				t.Errorf("First(%d, %d): %d, %d", s, c[0], shard.First(s, c[0]), home[s])
			}
		}
		for _, s := range []int{-1, 16, 17, math.MinInt, math.MaxInt} {
			if shard.First(s, c[0]) != 0 {
				t.Errorf("First(%d, %d)", s, c[0])
			}
		}
	}
	home := shard.Home(3)
	home[0] = 9
	if slices.Equal(home, shard.Home(3)) {
		t.Error("Home is seen elsewhere")
	}
}
