package flat

import (
	"trestle/api"
	"trestle/quote"
)

// sound tells whether a file may stand in a list, whatever the others are.
func sound(f api.File) bool {
	switch f.Mode {
	case api.ModeFile, api.ModeExec, api.ModeLink:
		return quote.Path(f.Path) && f.Id != (api.Id{})
	}
	return false
}

// below tells whether one of the paths is a directory of that path.
func below(path string, paths map[string]struct{}) bool {
	for i, r := range path {
		if r != '/' {
			continue
		}
		if _, ok := paths[path[:i]]; ok {
			return true
		}
	}
	return false
}

// firstName tells the name that a path begins with; true: others follow it.
func firstName(path string) (string, bool) {
	for i, r := range path {
		if r == '/' {
			return path[:i], true
		}
	}
	return path, false
}
