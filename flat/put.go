package flat

import (
	"strings"

	"trestle/api"
	"trestle/objects"
	"trestle/tree"
)

// put adds the tree of the files of one directory to a store, behind the trees
// in it. The first n bytes of each path are those of the directory.
func put(s *objects.Store, l []api.File, n int) (api.Id, api.Errno) {
	var items []api.Item
	for len(l) > 0 {
		x, count, err := putFirst(s, l, n)
		if err != api.OK {
			return api.Id{}, err
		}
		items = append(items, x)
		l = l[count:]
	}
	body, err := tree.Print(items)
	if err != api.OK {
		return api.Id{}, err
	}
	return s.Put(api.Object{Kind: api.Tree, Body: body})
}

// putFirst makes the item that the first of the files stands in, and tells how
// many of them do. If it is a tree, it is put.
func putFirst(s *objects.Store, l []api.File, n int) (api.Item, int, api.Errno) {
	f := l[0]
	name, deeper := firstName(f.Path[n:])
	if !deeper {
		return api.Item{Mode: f.Mode, Name: name, Id: f.Id}, 1, api.OK
	}
	end := n + len(name) + 1
	count := countUnder(l, f.Path[:end])
	id, err := put(s, l[:count], end)
	return api.Item{Mode: api.ModeTree, Name: name, Id: id}, count, err
}

// countUnder tells how many files at the beginning of a list have a path that
// begins with dir: in their order, those in one directory stand together.
func countUnder(l []api.File, dir string) int {
	for i, f := range l {
		if !strings.HasPrefix(f.Path, dir) {
			return i
		}
	}
	return len(l)
}
