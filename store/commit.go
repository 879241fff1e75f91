package store

import (
	"maps"

	"strongroom/api"
	"strongroom/page"
	"strongroom/root"
	"strongroom/space"
)

// plan is what a store is to be behind a Commit.
type plan struct {
	blobs     map[string]api.Blob
	room      *space.Map
	directory []byte
}

// Commit changes. ErrNil, ErrDown, ErrArg, ErrNone, ErrFull, ErrKey, the
// device's errors, the root's.
func (s *Store) Commit(l []api.Change) api.Errno {
	if s == nil {
		return api.ErrNil
	}
	if s.down {
		return api.ErrDown
	}
	if e := s.wrong(l); e != api.OK {
		return e
	}
	p, ok := s.plan(l)
	if !ok {
		return api.ErrFull
	}
	if s.keyGone(l) {
		return api.ErrKey
	}
	if e := s.lay(l, p); e != api.OK {
		s.down = true
		return e
	}
	s.blobs, s.room = p.blobs, p.room
	return api.OK
}

// wrong answers what is wrong with changes, whatever room there is. ErrArg,
// ErrNone.
func (s *Store) wrong(l []api.Change) api.Errno {
	named := make(map[string]struct{}, len(l))
	for _, x := range l {
		if !rightName(x.Name) || !rightKey(x.Key) || len(x.Body) > api.MaxPlain {
			return api.ErrArg
		}
		named[x.Name] = struct{}{}
	}
	if len(named) < len(l) {
		return api.ErrArg
	}
	for _, x := range l {
		if _, ok := s.blobs[x.Name]; x.Drop && !ok {
			return api.ErrNone
		}
	}
	return api.OK
}

// plan answers what the store comes to with changes, and whether there is
// room for it. Nothing is changed yet.
func (s *Store) plan(l []api.Change) (plan, bool) {
	p := plan{blobs: make(map[string]api.Blob, len(s.blobs)), room: s.room.Copy()}
	maps.Copy(p.blobs, s.blobs)
	next := api.Page{Id: s.v.Sealed(), Version: s.c.Version() + 1}
	for _, x := range l {
		if x.Drop {
			delete(p.blobs, x.Name)
			continue
		}
		block, ok := p.room.Take()
		if !ok {
			return plan{}, false
		}
		next.Key = x.Key
		next.Id++ // each that is laid seals one
		p.blobs[x.Name] = api.Blob{Name: x.Name, Key: x.Key, Block: block, Page: next, Size: len(x.Body)}
	}
	// Not ahead of this: till the root is put, what stood there holds.
	for _, x := range l {
		if was, ok := s.blobs[x.Name]; ok {
			p.room.Give(was.Block)
		}
	}
	p.directory = Directory(byNames(p.blobs))
	return p, len(p.blobs) <= api.MaxBlobs && len(p.directory) <= api.MaxPlain
}

// keyGone answers whether the key of a blob that is laid is destroyed.
func (s *Store) keyGone(l []api.Change) bool {
	for _, x := range l {
		if x.Drop {
			continue
		}
		// Nothing is ever sealed as handle 0, so this asks for the key alone.
		if _, e := s.v.Open(x.Key, "", 0); e == api.ErrKey {
			return true
		}
	}
	return false
}

// lay writes the blobs of a plan that are new, then the root. Layer 7's
// errors, layer 8's.
func (s *Store) lay(l []api.Change, p plan) api.Errno {
	for _, x := range l {
		if x.Drop {
			continue
		}
		to := p.blobs[x.Name]
		if e := page.Write(s.d, s.v, to.Block, to.Page, x.Body); e != api.OK {
			return e
		}
	}
	return root.Put(s.d, s.v, s.c, p.directory)
}
