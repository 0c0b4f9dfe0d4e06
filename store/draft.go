package store

import "scrinium/api"

// text is what a file is to have: so many of the first bytes that lie on the disk, and more behind them.
type text struct {
	kept int
	more string
}

// size is how many bytes it has.
func (t text) size() int { return t.kept + len(t.more) }

// first is its first n bytes.
func (t text) first(n int) text {
	if n <= t.kept {
		return text{kept: n}
	}
	return text{t.kept, t.more[:n-t.kept]}
}

// spot is a sector of a file by its place in it. Which one of the disk's it will be is known only when all changes are.
type spot struct {
	name  string
	place int
}

// draft is what all files are to have. As nothing is read or written for it, a call that can't be done is given up with it.
type draft struct {
	room    int
	texts   map[string]text
	touched map[spot]struct{}
}

// draft is one in which all files have what they have.
func (s *Store) draft() *draft {
	d := &draft{s.Room(), map[string]text{}, map[spot]struct{}{}}
	for name, f := range s.files {
		d.texts[name] = text{kept: f.size}
	}
	return d
}

// doing is what a change of that kind does; of a kind that is none, nil.
func doing(kind int) func(*draft, api.FileOp) api.Errno {
	switch kind {
	case api.FileMake:
		return (*draft).begin
	case api.FileAppend:
		return (*draft).extend
	case api.FileTrim:
		return (*draft).trim
	case api.FileDrop:
		return (*draft).drop
	case api.FileSet:
		return (*draft).set
	}
	return nil
}

// do does a change.
func (d *draft) do(op api.FileOp) api.Errno {
	does := doing(op.Kind)
	if does == nil || !Name(op.Name) {
		return api.ErrArg
	}
	if _, is := d.texts[op.Name]; !is && op.Kind != api.FileMake {
		return api.ErrNone
	}
	return does(d, op)
}

// begin makes a file.
func (d *draft) begin(op api.FileOp) api.Errno {
	if _, is := d.texts[op.Name]; is {
		return api.ErrState
	}
	if len(d.texts) >= api.MaxFiles {
		return api.ErrFull
	}
	d.texts[op.Name] = text{}
	return api.OK
}

// extend puts bytes at a file's end.
func (d *draft) extend(op api.FileOp) api.Errno {
	t := d.texts[op.Name]
	err := d.resize(op.Name, t.size(), t.size()+len(op.Data))
	if err == api.OK {
		d.texts[op.Name] = text{t.kept, t.more + op.Data}
	}
	return err
}

// trim cuts a file off.
func (d *draft) trim(op api.FileOp) api.Errno {
	t := d.texts[op.Name]
	if op.N < 0 || op.N > t.size() {
		return api.ErrArg
	}
	err := d.resize(op.Name, op.N, op.N)
	if err == api.OK {
		d.texts[op.Name] = t.first(op.N)
	}
	return err
}

// drop gives a file up.
func (d *draft) drop(op api.FileOp) api.Errno {
	if d.texts[op.Name].size() > 0 {
		return api.ErrState
	}
	delete(d.texts, op.Name)
	return api.OK
}

// set puts other bytes into a file.
func (d *draft) set(op api.FileOp) api.Errno {
	err := d.resize(op.Name, 0, len(op.Data))
	if err == api.OK {
		d.texts[op.Name] = text{more: op.Data}
	}
	return err
}

// resize tells whether a file may have another size, and other bytes from one on. What it touches counts from then on.
func (d *draft) resize(name string, from, size int) api.Errno {
	had := d.texts[name].size()
	if needs(size)-needs(had) > d.free() {
		return api.ErrFull
	}
	// Where no byte comes or goes, the sector of the byte from is none that is touched.
	if end := max(had, size); from < end {
		for place := from / api.SectorSize; place < needs(end); place++ {
			d.touched[spot{name, place}] = struct{}{}
		}
	}
	if len(d.touched) > api.MaxTouch {
		return api.ErrSize
	}
	return api.OK
}

// free is how many sectors no file needs.
func (d *draft) free() int {
	free := d.room
	for _, t := range d.texts {
		free -= needs(t.size())
	}
	return free
}
