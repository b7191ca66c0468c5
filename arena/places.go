package arena

const wordBits = 64

// places is a set of places of a list, a bit for each: sets of many places are joined a word at a time.
type places []uint64

// newPlaces is the empty set, with room for the places below length.
func newPlaces(length int) places {
	return make(places, (length+wordBits-1)/wordBits)
}

func (p places) has(at int) bool {
	return p[at/wordBits]&bit(at) != 0
}

func (p places) add(at int) {
	p[at/wordBits] |= bit(at)
}

func (p places) drop(at int) {
	p[at/wordBits] &^= bit(at)
}

// join adds all places of another set of the same length.
func (p places) join(other places) {
	for i, word := range other {
		p[i] |= word
	}
}

func bit(at int) uint64 {
	return 1 << (at % wordBits)
}
