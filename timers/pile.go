package timers

// pile is what the library's heap orders: timers, and the place of each kind among them, by which the timer of a kind
// is found without a search.
type pile struct {
	timers []Timer
	places map[int]int
}

// Len returns the number of timers.
func (p *pile) Len() int {
	return len(p.timers)
}

// Less reports whether the timer at i precedes that at j.
func (p *pile) Less(i, j int) bool {
	return order(p.timers[i], p.timers[j]) < 0
}

// Swap lets two timers change their places.
func (p *pile) Swap(i, j int) {
	p.timers[i], p.timers[j] = p.timers[j], p.timers[i]
	p.places[p.timers[i].Kind] = i
	p.places[p.timers[j].Kind] = j
}

// Push adds a timer at the end, from where the heap moves it.
func (p *pile) Push(x any) {
	t := x.(Timer)
	p.places[t.Kind] = len(p.timers)
	p.timers = append(p.timers, t)
}

// Pop removes and returns the timer at the end, to where the heap has moved it. Its kind still has a place: whoever
// asked the heap for the timer deletes it.
func (p *pile) Pop() any {
	last := len(p.timers) - 1
	t := p.timers[last]
	p.timers = p.timers[:last]
	return t
}
