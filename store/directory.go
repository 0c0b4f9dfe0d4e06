package store

import (
	"slices"
	"strings"

	"scrinium/api"
	"scrinium/extent"
	"scrinium/octet"
)

// dirMark is what a directory begins with: sectors of bytes 0 are none.
const dirMark = "SCS"

// directory is the sectors of a directory. It has room for any files: 32 of them have at most 21 bytes each beside their runs, and 500 runs of a sector each, which is as many as there may be, have 5 bytes.
func directory(files map[string]file) []string {
	var b strings.Builder
	b.WriteString(dirMark)
	put := func(n int) { b.WriteString(octet.Put(uint64(n))) }
	put(len(files))
	for _, name := range rising(files) {
		f := files[name]
		b.WriteString(octet.Text(name))
		put(f.size)
		put(len(f.at))
		for _, r := range f.at {
			put(r.At)
			put(r.N)
		}
	}
	return cut(b.String(), api.DirSize)
}

// filesOf is the files of a directory, all its sectors as one text, on a disk of so many sectors; false, if it is none.
func filesOf(s string, sectors int) (map[string]file, bool) {
	text, marked := strings.CutPrefix(s, dirMark)
	if !marked {
		return nil, false
	}
	x := octet.Read(text)
	files := map[string]file{}
	for range x.Num(api.MaxFiles) {
		name := x.Text(api.MaxName)
		files[name] = readFile(x)
	}
	// Each set of files has one directory alone: so nothing else may lie there, be it behind it, or another order.
	if !x.Sound() || strings.Join(directory(files), "") != s {
		return nil, false
	}
	return files, right(files, sectors)
}

// readFile reads a file's size and sectors.
func readFile(x *octet.Scan) file {
	f := file{size: x.Num(api.MaxData * api.SectorSize)}
	for range x.Num(api.MaxData) {
		at := x.Num(api.MaxSectors - 1)
		f.at = append(f.at, api.Run{At: at, N: x.Num(api.MaxData)})
	}
	return f
}

// right tells whether a disk of so many sectors may have such files.
func right(files map[string]file, sectors int) bool {
	for name, f := range files {
		if !Name(name) || extent.Total(f.at) != needs(f.size) {
			return false
		}
	}
	used, apart := sectorsOf(files)
	outside := func(r api.Run) bool { return r.At < dataFrom || r.At+r.N > sectors }
	return apart && !slices.ContainsFunc(used, outside)
}

// sectorsOf is the sectors of all files, as a free list has them; false, if one is of two files, or a run has none.
func sectorsOf(files map[string]file) (all []api.Run, apart bool) {
	apart = true
	for _, f := range files {
		for _, r := range f.at {
			more, is := extent.Give(all, r)
			all, apart = more, apart && is
		}
	}
	return all, apart
}
