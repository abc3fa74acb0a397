package handle

import "quartermaster/api"

// placeBits is how many of a handle's bits are its place: the lowest ones. Those ahead of them are its age.
const placeBits = 8

// state is a place's.
type state int

const (
	empty state = iota
	live
	zombie
	worn
)

// place has an object while it is live or a zombie, and the age that a handle of it has.
type place struct {
	api.Object
	state state
	age   int
}

func (p *place) enter(o api.Object) {
	p.Object, p.state = o, live
}

// leave takes the object off the place, and is what it was. A place that has no greater age isn't used again, since its next handle would be one that was given before.
func (p *place) leave() api.Object {
	o := p.Object
	p.Object = api.Object{}
	if p.age == api.MaxAge {
		p.state = worn
		return o
	}
	p.state = empty
	p.age++
	return o
}

// together is the handle of a place and an age.
func together(at, age int) api.Handle {
	return api.Handle(age)<<placeBits | api.Handle(at)
}

// apart is a handle's place, and its age. The bits that no handle has are left in the age, so that with one of them it is an age that no place has.
func apart(h api.Handle) (at, age int) {
	return int(h & (1<<placeBits - 1)), int(h >> placeBits)
}
