// Package name has names and paths.
package name

import (
	"strings"

	"socage/api"
)

// The limits.
const (
	MaxName = 64
	MaxPath = 1024
)

// Right: can an entry be called so?
func Right(s string) bool {
	if len(s) < 1 || len(s) > MaxName || s == "." || s == ".." {
		return false
	}
	return strings.IndexByte(s, '/') < 0 && strings.IndexByte(s, 0) < 0
}

// Split: the parts of a path, without empty ones and single dots, and whether it begins at the root; or why it is none.
func Split(path string) (parts []string, root bool, e api.Errno) {
	// The length comes first, so that a text of any size is refused at once.
	if len(path) < 1 || len(path) > MaxPath {
		return nil, false, api.EINVAL
	}
	for _, p := range strings.Split(path, "/") {
		if p == "" || p == "." {
			continue
		}
		// Two dots are kept: where they lead hangs on what is a link on the way, which only a walk can tell.
		if p != ".." && !Right(p) {
			return nil, false, api.EINVAL
		}
		parts = append(parts, p)
	}
	return parts, path[0] == '/', api.OK
}

// Join: the path of some parts, from the root.
func Join(parts ...string) string { return "/" + strings.Join(parts, "/") }

// Child: the path of an entry of a directory that has a path from the root.
func Child(dir, s string) string {
	// The root's path alone ends in a slash.
	if dir == "/" {
		return dir + s
	}
	return dir + "/" + s
}

// Parent: the path of the directory that one is in; the root is its own.
func Parent(dir string) string {
	i := strings.LastIndexByte(dir, '/')
	if i < 1 {
		return "/"
	}
	return dir[:i]
}
