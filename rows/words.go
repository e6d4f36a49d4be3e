package rows

// lows has the lower bit of each cell of a word set.
const lows uint64 = 0x5555555555555555

// above has both bits set of each cell at which x's is greater than y's.
func above(x, y uint64) uint64 {
	upper := x >> 1 &^ (y >> 1)
	lower := x &^ y
	// The lower bits decide only where y's upper one does not stand over x's.
	under := y >> 1 &^ (x >> 1)
	return spread((upper | lower&^under) & lows)
}

// like has the lower bit set of each cell of x that holds v.
func like(x uint64, v int) uint64 {
	unlike := x ^ uint64(v)*lows
	return lows &^ (unlike | unlike>>1)
}

// pick has x's bits where mask's are set, and y's elsewhere.
func pick(mask, x, y uint64) uint64 { return x&mask | y&^mask }

// spread sets the upper bit of each cell of which the lower one is set; the upper ones come in as 0.
func spread(low uint64) uint64 { return low | low<<1 }
