// Package adze: texts that are changed line by line, by a few short commands: see DOC.md.
package adze

import (
	"adze/api"
	"adze/edit"
	"adze/program"
)

// Script is commands that were read.
type Script struct {
	program *program.Program // nil in a Script that Parse did not make
}

// Parse reads a script (P3).
func Parse(script string) (*Script, api.Errno, int) {
	read, fault := program.Read(script)
	if fault != nil {
		return nil, fault.Err, fault.At
	}
	return &Script{program: read}, api.OK, 0
}

// Edit changes a text by the script (P4).
func (s *Script) Edit(input string, quiet bool) (string, api.Errno) {
	if s == nil || s.program == nil {
		return "", api.ErrClosed
	}
	return edit.Run(s.program, input, quiet)
}
