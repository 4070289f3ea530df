"""What moves can reach: reasons against it, routes, least numbers of moves."""
