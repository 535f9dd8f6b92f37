package streams

import "pendule/api"

// memory is what a node remembers from one instant to the next one.
type memory struct {
	delays []delay   // of each Fby, Pre and Arrow
	calls  []*memory // of the callee of each Call; nil where that is in its initial state
}

// delay is the entry of a Fby, a Pre or an Arrow.
type delay struct {
	begun bool     // whether it has had an instant
	last  api.Cell // of the kid that a Fby or a Pre delays
}

// newMemory returns the memory of a node in its initial state.
func newMemory(p *plan) *memory {
	return &memory{delays: make([]delay, p.delays), calls: make([]*memory, p.calls)}
}

// after returns the last cell of what is delayed, or first if there has been no instant.
func (d delay) after(first api.Cell) api.Cell {
	if d.begun {
		return d.last
	}
	return first
}
