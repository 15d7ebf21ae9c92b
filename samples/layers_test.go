package samples

import (
	"go/parser"
	"go/token"
	"path/filepath"
	"slices"
	"strconv"
	"strings"
	"testing"
)

// library are the packages of the library that the program may import.
const library = " bytes cmp container/heap errors iter maps math math/bits slices sort strconv strings sync sync/atomic unicode unicode/utf8 "

// below are the layers that each package imports, as its chapter says; every one imports api.
func below() map[string]string {
	return map[string]string{
		"api":     "",
		"word":    "",
		"expr":    "word",
		"parse":   "expr",
		"free":    "word expr",
		"subst":   "word expr free",
		"intern":  "word expr free",
		"schema":  "expr free subst",
		"rule":    "expr",
		"unit":    "word expr parse rule",
		"check":   "expr schema rule unit",
		"stamp":   "word expr",
		"graph":   "",
		"status":  "graph",
		"report":  "unit status",
		"plain":   "unit check report",
		"cache":   "word stamp",
		"incr":    "unit stamp graph report plain cache",
		"sched":   "",
		"crew":    "check report plain",
		"session": "check report plain incr sched",
		"script":  "report session",
		"derive":  "expr schema rule unit check",
		"deduct":  "expr rule derive",
		"model":   "word expr free",
		"samples": "parse",
	}
}

// imports returns what the files of a package other than tests import.
func imports(t *testing.T, folder string) []string {
	files, err := filepath.Glob(filepath.Join(folder, "*.go"))
	if err != nil || len(files) == 0 {
		t.Fatalf("no files in %s", folder)
	}
	var list []string
	for _, f := range files {
		if strings.HasSuffix(f, "_test.go") {
			continue
		}
		tree, err := parser.ParseFile(token.NewFileSet(), f, nil, parser.ImportsOnly)
		if err != nil {
			t.Fatal(err)
		}
		for _, i := range tree.Imports {
			path, err := strconv.Unquote(i.Path.Value)
			if err != nil {
				t.Fatal(err)
			}
			list = append(list, path)
		}
	}
	return list
}

// Each chapter's first paragraph: a package imports only the layers that it names, and of the library what is allowed.
func TestImports(t *testing.T) {
	for name, layers := range below() {
		allowed := append(strings.Fields(layers), "api")
		for _, path := range imports(t, filepath.Join("..", name)) {
			layer, ours := strings.CutPrefix(path, "organon/")
			if ours && !slices.Contains(allowed, layer) || !ours && !strings.Contains(library, " "+path+" ") {
				t.Errorf("%s imports %s", name, path)
			}
		}
	}
}
