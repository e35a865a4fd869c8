package flat

import (
	"trestle/api"
	"trestle/objects"
	"trestle/quote"
)

// walk is a way through the trees of a store, and the files found on it.
type walk struct {
	store *objects.Store
	files []api.File
}

// tree goes through a tree; dir is what all paths in it begin with.
func (w *walk) tree(id api.Id, dir string) api.Errno {
	items, err := w.store.Tree(id)
	if err != api.OK {
		return err
	}
	if len(items) == 0 {
		return api.ErrForm
	}
	for _, x := range items {
		if err := w.item(x, dir+x.Name); err != api.OK {
			return err
		}
	}
	return api.OK
}

// item finds a file, or goes through a tree. The files need no sorting: in a
// tree, another tree has the place of the paths in it.
func (w *walk) item(x api.Item, path string) api.Errno {
	switch {
	case !quote.Path(path):
		return api.ErrForm
	case x.Mode == api.ModeTree:
		return w.tree(x.Id, path+"/")
	case len(w.files) >= api.MaxFiles:
		return api.ErrLimit
	}
	w.files = append(w.files, api.File{Path: path, Mode: x.Mode, Id: x.Id})
	return api.OK
}
