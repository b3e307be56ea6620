package store

import (
	"testing"

	"snapferry/api"
	"snapferry/digest"
)

// held is a store with room for nothing more, in which an object has a name that isn't its own: no two texts with one digest are known.
func held(name string, other object) *Store {
	size := len(other.data) + nameSize
	return &Store{room: size, taken: size, objects: map[string]object{name: other}}
}

// P7.1
func TestPutCollision(t *testing.T) {
	name := digest.Join(7, "hello")
	for _, other := range []object{{7, "hellp"}, {7, "hell"}, {7, "hello\x00"}, {7, ""}, {8, "hello"}, {8, "other"}} {
		s := held(name, other)
		for range 2 {
			if got, err := s.Put(7, "hello"); got != "" || err != api.ErrCollision {
				t.Errorf("Put where %d, %q has the name = %x, %d", other.tag, other.data, got, err)
			}
		}
		if data, err := s.Get(other.tag, name); data != other.data || err != api.OK {
			t.Errorf("what was there: %q, %d, want %q", data, err, other.data)
		}
		if s.Taken() != len(other.data)+32 || len(s.Names()) != 1 {
			t.Errorf("%d bytes taken, %d names, where a Put was refused", s.Taken(), len(s.Names()))
		}
	}
}

// P7.1
func TestPutCollisionWithRoom(t *testing.T) {
	s := held(digest.Join(7, "hello"), object{7, "other"})
	s.room = 1 << 20
	if got, err := s.Put(7, "hello"); got != "" || err != api.ErrCollision {
		t.Errorf("Put = %x, %d", got, err)
	}
}

// When the other one went, its name is free. P7.1, P7.2
func TestPutBehindCollision(t *testing.T) {
	name := digest.Join(7, "hello")
	s := held(name, object{7, "other"})
	if n := s.Keep(nil); n != 1 {
		t.Errorf("Keep = %d", n)
	}
	if got, err := s.Put(7, "hello"); got != name || err != api.OK {
		t.Errorf("Put = %x, %d", got, err)
	}
}
