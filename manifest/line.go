package manifest

import (
	"strings"

	"trestle/api"
	"trestle/hexa"
)

// digits is how many digits an id has.
const digits = 2 * len(api.Id{})

// firstLine tells the line that a text begins with, without its end; false:
// no line ends in it.
func firstLine(s string) (string, bool) {
	line, _, ok := strings.Cut(s, "\n")
	if !ok {
		return "", false
	}
	return line, true
}

// file reads the file of a line; false: it is that of none. The file need not
// be one that may stand in a list.
func file(line string) (api.File, bool) {
	path, rest, ok := strings.Cut(line, "\x00")
	if !ok || len(rest) < digits {
		return api.File{}, false
	}
	id, err := hexa.Id(rest[:digits])
	if err != api.OK {
		return api.File{}, false
	}
	mode, ok := modeOf(rest[digits:])
	if !ok {
		return api.File{}, false
	}
	return api.File{Path: path, Mode: mode, Id: id}, true
}

// flag tells what a line has behind the id of a file of a mode.
func flag(mode int) string {
	switch mode {
	case api.ModeExec:
		return "x"
	case api.ModeLink:
		return "l"
	}
	return ""
}

// modeOf tells the mode that a line has a flag for; false: there is none.
func modeOf(s string) (int, bool) {
	for mode := api.ModeFile; mode <= api.ModeLink; mode++ {
		if flag(mode) == s {
			return mode, true
		}
	}
	return 0, false
}
